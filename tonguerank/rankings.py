"""Rankings of the wishes, and the sayings of a word that they choose."""

from tonguerank.errors import NoRanking
from tonguerank.words import check_count, is_whole


def is_ranking(count, wishes):
    return all([is_whole(wish) for wish in wishes]) and sorted(wishes) == list(range(count))


def check_ranking(count, ranking):
    if not is_ranking(count, ranking):
        raise NoRanking("a ranking has each wish just once")


# Starts that stand in order give longer ones in order: the lesser wish is put behind first.
def one_wish_longer(count, starts):
    longer = []
    for start in starts:
        for wish in range(count):
            if wish not in start:
                longer.append(start + (wish,))
    return longer


# For those who refuse no count.
def rankings_in_order(count):
    told = [()]
    while len(told[0]) < count:
        told = one_wish_longer(count, told)
    return told


def rankings(count):
    check_count(count)
    return rankings_in_order(count)


# What beats does once the ranking is checked, so that best checks it once alone.
def goes_ahead(ranking, one, two):
    for wish in ranking:
        if one[wish] != two[wish]:
            return one[wish] < two[wish]
    return False


def beats(ranking, one, two):
    check_ranking(len(one), ranking)
    return goes_ahead(ranking, one, two)


def is_beaten(ranking, marks, word):
    return any([goes_ahead(ranking, other, marks) for other in word])


def best(ranking, word):
    # Without sayings there are no marks that tell how many wishes the ranking must have.
    count = len(word[0]) if word else len(ranking)
    check_ranking(count, ranking)
    return [number for number, marks in enumerate(word) if not is_beaten(ranking, marks, word)]
