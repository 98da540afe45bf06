"""Points 2 to 4, 8 and 20: the tongue of a ranking, and all kinds of tongue."""

import copy
import itertools
import math
import unittest

from plain import BAD_RANKINGS, FORTY, UNLIKE_COUNTS, every_ranking, mixed_word, plain_bests
from tonguerank.chances import chance
from tonguerank.errors import NoRanking, RankError
from tonguerank.rankings import best, rankings
from tonguerank.tongues import tongue, tongues
from tonguerank.words import word_of

# Of two wishes: each has one saying that goes by the one wish and one that goes by the other.
TWO_WAYS = ((0, 1), (1, 0))
TIED = ((0, 1), (1, 0), (0, 1))


def plain_tongue(ranking, words):
    return tuple(tuple(plain_bests(ranking, word)) for word in words)


def plain_tongues(count, words):
    """Point 20 by its words, ranking by ranking."""
    told = []
    for ranking in every_ranking(count):
        made = plain_tongue(ranking, words)
        if made not in [other for other, first, many in told]:
            many = sum(plain_tongue(other, words) == made for other in every_ranking(count))
            told.append((made, ranking, many))
    return told


def some_words(seed):
    """One to three words of one count from one to six, each of one to five sayings."""
    count = 1 + seed % 6
    lengths = [1 + (seed + 2 * place) % 5 for place in range(1 + seed % 3)]
    return (count, [mixed_word(count, many, 2 + seed % 3, seed + 100 * place) for place, many in enumerate(lengths)])


class TongueCase(unittest.TestCase):
    def assert_is_tongue(self, told, words):
        self.assertIs(type(told), tuple)
        self.assertEqual(len(told), len(words))
        for places in told:
            self.assertIs(type(places), tuple)
            self.assertTrue(places)
            self.assertTrue(all(type(place) is int for place in places))

    def assert_tongue(self, ranking, words, wanted):
        told = tongue(ranking, words)
        self.assert_is_tongue(told, words)
        self.assertEqual(told, wanted, (ranking, words))

    def assert_tongues(self, count, words):
        told = tongues(count, words)
        self.assertIs(type(told), list)
        for entry in told:
            self.assertIs(type(entry), tuple)
            self.assertEqual(len(entry), 3)
            self.assert_is_tongue(entry[0], words)
            self.assertIs(type(entry[1]), tuple)
            self.assertIs(type(entry[2]), int)
        self.assertEqual(told, plain_tongues(count, words), words)
        self.assertEqual(sum(entry[2] for entry in told), math.factorial(count))
        return told

    def assert_no_ranking(self, ranking, words):
        with self.assertRaises(RankError) as taken:
            tongue(ranking, words)
        self.assertIs(type(taken.exception), NoRanking, (ranking, words))


class Tongue(TongueCase):
    def test_one_word(self):
        self.assert_tongue((0, 1), [TWO_WAYS], ((0,),))
        self.assert_tongue((1, 0), [TWO_WAYS], ((1,),))

    def test_several_words(self):
        self.assert_tongue((0, 1), [TWO_WAYS, TIED], ((0,), (0, 2)))
        self.assert_tongue((1, 0), [TWO_WAYS, TIED, TWO_WAYS], ((1,), (1,), (1,)))

    def test_alike_sayings_are_told_rising(self):
        self.assert_tongue((0,), [((3,),) * 5, ((1,), (0,), (1,), (0,), (0,))], ((0, 1, 2, 3, 4), (1, 3, 4)))

    def test_one_saying(self):
        self.assert_tongue((2, 0, 1), [((5, 0, FORTY),)], ((0,),))

    def test_numbers_of_forty_figures(self):
        word = word_of(2, [[FORTY, FORTY - 1], [FORTY - 1, FORTY]])
        self.assert_tongue((0, 1), [word], ((1,),))
        self.assert_tongue((1, 0), [word], ((0,),))

    def test_each_ranking_against_a_plain_reading(self):
        for seed in range(36):
            count, words = some_words(seed)
            for ranking in every_ranking(count)[::7] + every_ranking(count)[-1:]:
                self.assert_tongue(ranking, words, plain_tongue(ranking, words))
                self.assertEqual(tongue(ranking, words), tuple(tuple(best(ranking, word)) for word in words))

    def test_words_beyond_the_bounds_are_not_refused(self):
        self.assert_tongue((0, 1), [TWO_WAYS] * 4, ((0,),) * 4)
        self.assert_tongue((1, 0), [TWO_WAYS * 3], ((1, 3, 5),))
        self.assert_tongue((6, 5, 4, 3, 2, 1, 0), [((0,) * 7, (0, 0, 0, 0, 0, 0, 1))], ((0,),))
        self.assertEqual(tongue((0, 1), []), ())

    def test_what_is_no_ranking(self):
        for ranking in BAD_RANKINGS:
            for words in ([((0, 1, 2),)], [((0, 1, 2), (1, 0, 2))] * 3, [((0, 0, 0),) * 5]):
                self.assert_no_ranking(ranking, words)

    def test_rankings_of_other_counts(self):
        for count, other in UNLIKE_COUNTS:
            for words in ([((0,) * count,)], [((0,) * count, (1,) * count)] * 3):
                self.assert_no_ranking(tuple(range(other)), words)

    def test_what_is_no_ranking_whatever_is_refused_without_words(self):
        for ranking in ((0, 0), (1,), (0, -1), (1, 2)):
            self.assert_no_ranking(ranking, [])

    def test_truths_are_no_wishes(self):
        self.assert_no_ranking((False, True), [TWO_WAYS])

    def test_refused_twice_in_a_row(self):
        for turn in range(2):
            self.assert_no_ranking((0, 0), [TWO_WAYS])
        self.assert_tongue((0, 1), [TWO_WAYS], ((0,),))


class Tongues(TongueCase):
    def test_one_word(self):
        self.assertEqual(self.assert_tongues(2, [TWO_WAYS]), [(((0,),), (0, 1), 1), (((1,),), (1, 0), 1)])

    def test_words_that_leave_nothing_to_choose(self):
        for count in range(1, 7):
            words = [((3,) * count, (0,) * count, (0,) * count)]
            self.assertEqual(
                self.assert_tongues(count, words), [(((1, 2),), tuple(range(count)), math.factorial(count))]
            )

    def test_the_order_is_that_of_the_first_rankings(self):
        word = word_of(3, [[1, 1, 0], [1, 0, 1], [0, 1, 1]])
        self.assertEqual(
            self.assert_tongues(3, [word]),
            [(((2,),), (0, 1, 2), 2), (((1,),), (1, 0, 2), 2), (((0,),), (2, 0, 1), 2)],
        )

    def test_a_tongue_whose_rankings_do_not_stand_together(self):
        word = word_of(3, [[0, 0, 1], [0, 1, 0]])
        self.assertEqual(self.assert_tongues(3, [word]), [(((0,),), (0, 1, 2), 3), (((1,),), (0, 2, 1), 3)])

    def test_words_in_which_some_rankings_tell_sayings_apart_and_some_do_not(self):
        one = word_of(3, [[0, 1, 1], [1, 0, 1], [1, 1, 0]])
        two = word_of(3, [[0, 0, 1], [0, 1, 0], [1, 0, 0]])
        told = self.assert_tongues(3, [one, two])
        self.assertEqual(len(told), 6)
        self.assertEqual([entry[1] for entry in told], rankings(3))

    def test_one_wish(self):
        self.assertEqual(self.assert_tongues(1, [((1,), (0,))] * 3), [(((1,),) * 3, (0,), 1)])

    def test_all_words_of_two_sayings_of_small_counts(self):
        for count in (1, 2, 3):
            every = list(itertools.product(range(2), repeat=count))
            for word in itertools.product(every, repeat=2):
                self.assert_tongues(count, [word])

    def test_one_to_three_words_of_one_to_five_wishes(self):
        for seed in range(120):
            count, words = some_words(seed)
            if count < 6:
                self.assert_tongues(count, words)

    def test_six_wishes(self):
        for seed in (5, 11, 17, 23):
            count, words = some_words(seed)
            self.assertEqual(count, 6)
            self.assert_tongues(count, words)

    def test_what_the_other_parts_tell(self):
        for seed in range(24):
            count, words = some_words(seed)
            told = tongues(count, words)
            for made, first, many in told:
                self.assertEqual(tongue(first, words), made)
            for place, word in enumerate(words):
                for number in range(len(word)):
                    firsts = [first for made, first, many in told if number in made[place]]
                    had = chance(word, number)
                    self.assertEqual(had[0], bool(firsts))
                    if firsts:
                        self.assertEqual(had[1], min(firsts))

    def test_words_beyond_the_bounds_are_not_refused(self):
        self.assertEqual(tongues(2, [TWO_WAYS] * 4), [(((0,),) * 4, (0, 1), 1), (((1,),) * 4, (1, 0), 1)])
        self.assertEqual(tongues(2, [TWO_WAYS * 3]), [(((0, 2, 4),), (0, 1), 1), (((1, 3, 5),), (1, 0), 1)])
        self.assertEqual(tongues(3, []), [((), (0, 1, 2), 6)])
        word = ((0,) * 6 + (1,), (1,) + (0,) * 6)
        self.assertEqual(
            tongues(7, [word]),
            [(((0,),), (0, 1, 2, 3, 4, 5, 6), 2520), (((1,),), (1, 2, 3, 4, 5, 6, 0), 2520)],
        )


class OwnLists(TongueCase):
    def test_the_told_list_changed_and_asked_again(self):
        words = [TWO_WAYS]
        told = tongues(2, words)
        wanted = list(told)
        told.reverse()
        told.append("more")
        again = tongues(2, words)
        self.assertEqual(again, wanted)
        tongues(2, words).clear()
        self.assertEqual(again, wanted)

    def test_the_handed_in_list_is_not_changed_and_may_be_changed_behind_the_call(self):
        words = [TIED, TWO_WAYS]
        kept = copy.deepcopy(words)
        one = tongue((0, 1), words)
        every = tongues(2, words)
        self.assertEqual(words, kept)
        words.clear()
        self.assertEqual(one, ((0, 2), (0,)))
        self.assertEqual(every, [(((0, 2), (0,)), (0, 1), 1), (((1,), (1,)), (1, 0), 1)])

    def test_the_same_asked_again(self):
        for seed in range(10):
            count, words = some_words(seed)
            self.assertEqual(tongues(count, words), tongues(count, list(words)))


if __name__ == "__main__":
    unittest.main()
