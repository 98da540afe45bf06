"""Machines: rooms and the ties between them, whose walks are sayings, perhaps without end."""

from tonguerank.errors import NoMachine, NoRoom
from tonguerank.rankings import check_ranking, goes_ahead
from tonguerank.words import check_count, is_whole, marks_from

MOST_ROOMS = 12
MOST_TIES = 48
MOST_SIGNS = 4


def check_room(ends, number):
    if not is_whole(number) or not 0 <= number < len(ends):
        raise NoRoom("a tie leads from a room of the machine to one of its rooms")


def check_rooms(ends, rows):
    for row in rows:
        check_room(ends, row[0])
        check_room(ends, row[1])


def machine_of(count, ends, rows):
    check_count(count)
    if not 1 <= len(ends) <= MOST_ROOMS:
        raise NoMachine("a machine has from one to twelve rooms")
    check_rooms(ends, rows)
    ties = tuple([(row[0], row[1], row[2], marks_from(count, row[3])) for row in rows])
    if len(ties) > MOST_TIES:
        raise NoMachine("a machine has at most forty-eight ties")
    if any([len(tie[2]) > MOST_SIGNS for tie in ties]):
        raise NoMachine("a tie's text has at most four signs")
    return (tuple(ends), ties)


def added(one, two):
    return tuple([mine + other for mine, other in zip(one, two)])


# Whether some marks are worth keeping in the place of those kept, if any.
def is_better(ranking, marks, kept):
    return kept is None or goes_ahead(ranking, marks, kept)


# For each room the best marks of a row of ties to it, and such a row; both None where none leads to it.
# Marks are nowhere below 0, so no circle makes a row better, and the rounds come to an end.
def best_rows(count, machine, ranking):
    costs = [None for end in machine[0]]
    walks = [None for end in machine[0]]
    costs[0] = (0,) * count
    walks[0] = []
    changed = True
    while changed:
        changed = False
        for number, tie in enumerate(machine[1]):
            if costs[tie[0]] is not None:
                marks = added(costs[tie[0]], tie[3])
                if is_better(ranking, marks, costs[tie[1]]):
                    costs[tie[1]] = marks
                    walks[tie[1]] = walks[tie[0]] + [number]
                    changed = True
    return (costs, walks)


def best_end(ends, costs, ranking):
    found = None
    for room, end in enumerate(ends):
        if end and costs[room] is not None:
            if found is None or goes_ahead(ranking, costs[room], costs[found]):
                found = room
    return found


def best_walk(count, machine, ranking):
    check_ranking(count, ranking)
    told = best_rows(count, machine, ranking)
    costs = told[0]
    room = best_end(machine[0], costs, ranking)
    if room is None:
        return None
    return (costs[room], told[1][room], costs)
