"""Sayings with a chance: those that some ranking has among the best."""

from tonguerank.errors import NoSaying
from tonguerank.floors import floors
from tonguerank.many import first_ranking
from tonguerank.rows import row_of
from tonguerank.words import is_whole


def check_saying(word, number):
    if not is_whole(number) or not 0 <= number < len(word):
        raise NoSaying("there is no saying of this number")


def chance(word, number):
    check_saying(word, number)
    marks = word[number]
    others = [other for other in range(len(word)) if other != number]
    # A ranking has the saying among the best just where it fits the rows of it against all others.
    rows = [row_of(marks, word[other]) for other in others]
    ranking = first_ranking(len(marks), rows)
    if ranking is not None:
        return (True, ranking)
    return (False, [others[place] for place in floors(len(marks), rows)[1]])
