"""The learner, who moves wishes down, row by row, until their standing fits all rows."""

from tonguerank.errors import Clash, NoMove
from tonguerank.floors import floors


# A number above the least one needs no move: so a standing that fits the row stays as it is.
def number_behind(number, sign, least):
    if sign == "L" and number <= least:
        return least + 1
    return number


def moved(standing, row):
    if "W" in row:
        least = min([number for number, sign in zip(standing, row) if sign == "W"])
        return tuple([number_behind(number, sign, least) for number, sign in zip(standing, row)])
    if "L" in row:
        raise NoMove("no move helps where a row has some L and no W")
    return tuple(standing)


def learned(count, rows):
    told = floors(count, rows)
    # Where rows clash the learner would move for ever.
    if not told[0]:
        raise Clash(told[1])
    standing = (0,) * count
    moves = 0
    begun = None
    while standing != begun:
        begun = standing
        for row in rows:
            behind = moved(standing, row)
            if behind != standing:
                moves = moves + 1
            standing = behind
    return (standing, moves)
