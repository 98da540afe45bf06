"""How many rankings fit all of some rows, and the first of them."""

from tonguerank.floors import free_wishes, has_win


# The rows that still ask for something once some wishes stand ahead of all others.
def rows_left(rows, ahead):
    return [row for row in rows if not has_win(row, ahead)]


def without(wishes, gone):
    return tuple([wish for wish in wishes if wish != gone])


# Each key holds the wishes that are still to be put behind: which of them may come next does not
# hang on the order of those ahead, so the orders need only be counted, not told one by one.
def one_wish_on(count, rows, ways):
    further = {}
    for wishes, many in ways.items():
        ahead = [wish for wish in range(count) if wish not in wishes]
        for wish in free_wishes(wishes, rows_left(rows, ahead)):
            rest = without(wishes, wish)
            further[rest] = further.get(rest, 0) + many
    return further


def how_many(count, rows):
    ways = {tuple(range(count)): 1}
    for place in range(count):
        ways = one_wish_on(count, rows, ways)
    return sum(ways.values())


def first_ranking(count, rows):
    ranking = ()
    wishes = tuple(range(count))
    while wishes:
        free = free_wishes(wishes, rows_left(rows, ranking))
        if not free:
            return None
        # The least one never leads astray: where some ranking fits, the wishes left may follow in its order.
        ranking = ranking + (free[0],)
        wishes = without(wishes, free[0])
    return ranking
