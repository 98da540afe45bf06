"""Tongues: which sayings of some words are the best, by one ranking or by each of all."""

from tonguerank.rankings import best, check_ranking, rankings_in_order


def tongue(ranking, words):
    # Without words none of them would refuse a tuple that is no ranking whatever.
    check_ranking(len(ranking), ranking)
    return tuple([tuple(best(ranking, word)) for word in words])


def tongues(count, words):
    firsts = {}
    manys = {}
    # Dicts keep the order in which keys came: that of the first rankings.
    for ranking in rankings_in_order(count):
        made = tongue(ranking, words)
        firsts.setdefault(made, ranking)
        manys[made] = manys.get(made, 0) + 1
    return [(made, first, manys[made]) for made, first in firsts.items()]
