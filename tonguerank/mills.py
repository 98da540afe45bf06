"""Mills and counters: texts letter by letter, their marks, and both joined to a machine."""

from tonguerank.errors import NoLetter, TooMany
from tonguerank.machines import MOST_ROOMS, best_walk
from tonguerank.rankings import check_ranking


def letter_places(letters, text):
    for sign in text:
        if sign not in letters:
            raise NoLetter("a text has letters of the mill and the counters alone")
    return [letters.find(sign) for sign in text]


def count_of(counter, text):
    room = 0
    counted = 0
    for place in letter_places(counter[0], text):
        step = counter[1][room][place]
        room = step[0]
        counted = counted + step[1]
    return counted


def marks_of(counters, text):
    return tuple([count_of(counter, text) for counter in counters])


def has(mill, text):
    room = 0
    # All places are told first, so that a sign that is no letter is refused wherever it stands.
    for place in letter_places(mill[0], text):
        room = mill[2][room][place]
        if room is None:
            return False
    return mill[1][room]


# The rooms of mill and counters together are a tuple, the mill's first.
def rooms_behind(mill, counters, rooms, place):
    room = mill[2][rooms[0]][place]
    if room is None:
        return None
    return (room,) + tuple([counter[1][at][place][0] for counter, at in zip(counters, rooms[1:])])


def marks_on(counters, rooms, place):
    return tuple([counter[1][at][place][1] for counter, at in zip(counters, rooms[1:])])


# The rooms that a told one leads to, with the place of the letter, by the letters in order.
def steps_from(mill, counters, rooms):
    steps = []
    for place in range(len(mill[0])):
        behind = rooms_behind(mill, counters, rooms, place)
        if behind is not None:
            steps.append((place, behind))
    return steps


# All rooms together in the order in which they are first come to, each with a text that leads to it.
def rooms_come_to(mill, counters):
    order = [(0,) * (1 + len(counters))]
    texts = {order[0]: ""}
    number = 0
    while number < len(order):
        rooms = order[number]
        for place, behind in steps_from(mill, counters, rooms):
            if behind not in texts:
                order.append(behind)
                texts[behind] = texts[rooms] + mill[0][place]
                # Refused at once: all rooms together may be some thousands.
                if len(order) > MOST_ROOMS:
                    raise TooMany(list(texts.values()))
        number = number + 1
    return order


def joined(mill, counters):
    order = rooms_come_to(mill, counters)
    ties = []
    for number, rooms in enumerate(order):
        for place, behind in steps_from(mill, counters, rooms):
            ties.append((number, order.index(behind), mill[0][place], marks_on(counters, rooms, place)))
    return (tuple([mill[1][rooms[0]] for rooms in order]), tuple(ties))


def best_text(mill, counters, ranking):
    check_ranking(len(counters), ranking)
    machine = joined(mill, counters)
    told = best_walk(len(counters), machine, ranking)
    if told is None:
        return None
    return ("".join([machine[1][number][2] for number in told[1]]), told[0])
