"""What follows from rows, and rows without those that follow from the others."""

from tonguerank.floors import floors

TURNED_SIGNS = {"W": "L", "e": "e", "L": "W"}


def turned(row):
    return "".join([TURNED_SIGNS[sign] for sign in row])


# The wishes of one floor may stand in any order.
def ranking_by(told_floors):
    wishes = []
    for floor in told_floors:
        wishes.extend(floor)
    return tuple(wishes)


def follows(count, rows, row):
    # Every ranking fits a row without L, and the fused row of no rows shows it.
    if "L" not in row:
        return (True, [])
    # With some L in the row a ranking fits the turned row just where it does not fit the row itself.
    told = floors(count, list(rows) + [turned(row)])
    if told[0]:
        return (False, ranking_by(told[1]))
    # The turned row stands last and is none of the rows. Where it is among those that clash, the fused
    # row of the others has L at each W of the turned one, and W at none but an L of it: so it is at
    # each wish no better than the row.
    return (True, [place for place in told[1] if place < len(rows)])


def thinned(count, rows):
    kept = list(range(len(rows)))
    for place in range(len(rows)):
        others = [other for other in kept if other != place]
        if follows(count, [rows[other] for other in others], rows[place])[0]:
            kept = others
    return kept
