"""Points 2, 3, 7 and 8: rankings, which marks beat others, and the best sayings."""

import copy
import itertools
import math
import unittest

from plain import BAD_COUNTS, BAD_RANKINGS, FORTY, UNLIKE_COUNTS
from tonguerank.errors import NoCount, NoRanking
from tonguerank.rankings import beats, best, rankings
from tonguerank.words import word_of


def plainly_beats(ranking, one, two):
    """Point 7 by its words: fewer marks at the first wish of the ranking at which they differ."""
    unlike = [wish for wish in ranking if one[wish] != two[wish]]
    return len(unlike) > 0 and one[unlike[0]] < two[unlike[0]]


def plainly_best(ranking, word):
    numbers = []
    for number in range(len(word)):
        beaten = False
        for other in range(len(word)):
            if plainly_beats(ranking, word[other], word[number]):
                beaten = True
        if not beaten:
            numbers.append(number)
    return numbers


def comes_before(one, two):
    """Point 8 by its words: the lesser wish at the first place at which they differ."""
    place = [number for number in range(len(one)) if one[number] != two[number]][0]
    return one[place] < two[place]


class Rankings(unittest.TestCase):
    def test_small_counts(self):
        self.assertEqual(rankings(1), [(0,)])
        self.assertEqual(rankings(2), [(0, 1), (1, 0)])
        self.assertEqual(rankings(3), [(0, 1, 2), (0, 2, 1), (1, 0, 2), (1, 2, 0), (2, 0, 1), (2, 1, 0)])

    def test_how_many_and_each_once(self):
        for count in range(1, 7):
            with self.subTest(count=count):
                told = rankings(count)
                self.assertEqual(len(told), math.factorial(count))
                self.assertEqual(set(told), set(itertools.permutations(range(count))))

    def test_the_kinds(self):
        for count in range(1, 7):
            with self.subTest(count=count):
                told = rankings(count)
                self.assertIs(type(told), list)
                self.assertTrue(all(type(ranking) is tuple for ranking in told))
                self.assertTrue(all(type(wish) is int for ranking in told for wish in ranking))

    def test_the_order(self):
        for count in range(1, 7):
            with self.subTest(count=count):
                told = rankings(count)
                self.assertTrue(all(comes_before(one, two) for one, two in zip(told, told[1:])))

    def test_the_ends_of_six_wishes(self):
        told = rankings(6)
        self.assertEqual(told[0], (0, 1, 2, 3, 4, 5))
        self.assertEqual(told[1], (0, 1, 2, 3, 5, 4))
        self.assertEqual(told[-1], (5, 4, 3, 2, 1, 0))

    def test_the_told_list_is_the_askers_own(self):
        for count in range(1, 7):
            with self.subTest(count=count):
                told = rankings(count)
                kept = list(told)
                told.reverse()
                told.append("more")
                told[0] = None
                again = rankings(count)
                self.assertEqual(again, kept)
                self.assertIsNot(again, rankings(count))
                again.clear()
                self.assertEqual(rankings(count), kept)

    def test_a_later_call_leaves_an_earlier_list(self):
        told = rankings(2)
        rankings(3)
        rankings(2).clear()
        self.assertEqual(told, [(0, 1), (1, 0)])

    def test_counts_that_are_none(self):
        for count in BAD_COUNTS + (True, False):
            with self.subTest(bits=count.bit_length(), below=count < 0):
                with self.assertRaises(NoCount):
                    rankings(count)


class Beats(unittest.TestCase):
    def assert_one_way(self, ranking, one, two):
        self.assertIs(beats(ranking, one, two), True)
        self.assertIs(beats(ranking, two, one), False)

    def test_marks_that_differ_at_one_wish(self):
        for ranking in rankings(3):
            with self.subTest(ranking=ranking):
                self.assert_one_way(ranking, (0, 5, 5), (1, 5, 5))
                self.assert_one_way(ranking, (5, 2, 5), (5, 3, 5))
                self.assert_one_way(ranking, (5, 5, 0), (5, 5, 9))

    def test_marks_that_differ_at_several_wishes(self):
        self.assert_one_way((0, 1, 2), (0, 9, 9), (1, 0, 0))
        self.assert_one_way((0, 2, 1), (0, 9, 9), (1, 0, 0))
        self.assert_one_way((1, 0, 2), (1, 0, 0), (0, 9, 9))
        self.assert_one_way((2, 0, 1), (1, 0, 0), (0, 9, 9))

    def test_no_sums_one_wish_above_another(self):
        self.assert_one_way((1, 0), (FORTY, 0), (0, 1))

    def test_the_highest_wishes_may_be_alike(self):
        self.assert_one_way((2, 0, 1), (3, 4, 7), (3, 5, 7))
        self.assert_one_way((2, 0, 1), (2, 9, 7), (3, 5, 7))

    def test_marks_that_are_alike(self):
        for count in range(1, 7):
            for ranking in rankings(count):
                marks = tuple(range(count))
                with self.subTest(ranking=ranking):
                    self.assertIs(beats(ranking, marks, marks), False)
                    self.assertIs(beats(ranking, marks, tuple(list(marks))), False)
                    self.assertIs(beats(ranking, (0,) * count, (0,) * count), False)

    def test_one_wish(self):
        self.assert_one_way((0,), (0,), (1,))
        self.assertIs(beats((0,), (4,), (4,)), False)

    def test_six_wishes(self):
        self.assert_one_way((5, 4, 3, 2, 1, 0), (1, 0, 0, 0, 0, 0), (2, 0, 0, 0, 0, 0))
        self.assert_one_way((5, 4, 3, 2, 1, 0), (9, 9, 9, 9, 9, 0), (0, 0, 0, 0, 0, 1))
        self.assert_one_way((0, 1, 2, 3, 4, 5), (9, 9, 9, 9, 9, 0), (9, 9, 9, 9, 9, 1))

    def test_numbers_of_forty_figures(self):
        self.assert_one_way((0, 1), (FORTY - 1, FORTY), (FORTY, 0))
        self.assert_one_way((1, 0), (FORTY, FORTY - 1), (0, FORTY))
        self.assertIs(beats((0, 1), (FORTY, 0), (10 ** 40 - 1, 0)), False)

    def test_all_rankings_of_small_counts_against_a_plain_reading(self):
        for count, most in ((1, 4), (2, 4), (3, 3), (4, 2)):
            every = list(itertools.product(range(most), repeat=count))
            for ranking in itertools.permutations(range(count)):
                for one, two in itertools.product(every, repeat=2):
                    told = beats(ranking, one, two)
                    self.assertIs(told, plainly_beats(ranking, one, two), (ranking, one, two))

    def test_asked_again(self):
        for turn in range(3):
            self.assert_one_way((1, 0), (5, 0), (0, 1))

    def test_what_is_no_ranking(self):
        for ranking in BAD_RANKINGS:
            for two in ((1, 0, 2), (0, 1, 2)):
                with self.subTest(ranking=ranking, two=two):
                    with self.assertRaises(NoRanking):
                        beats(ranking, (0, 1, 2), two)

    def test_no_ranking_also_where_the_first_wish_tells_apart(self):
        for ranking in ((0, 0, 0), (0,), (0, 1, 2, 3), (0, 1, 5)):
            with self.subTest(ranking=ranking):
                with self.assertRaises(NoRanking):
                    beats(ranking, (0, 1, 2), (9, 1, 2))

    def test_rankings_of_other_counts(self):
        for count, other in UNLIKE_COUNTS:
            with self.subTest(count=count, other=other):
                with self.assertRaises(NoRanking):
                    beats(tuple(range(other)), (0,) * count, (1,) * count)

    def test_truths_are_no_wishes(self):
        for ranking in ((False, True), (0, True), (False, 1), (True, 0)):
            with self.assertRaises(NoRanking):
                beats(ranking, (0, 1), (1, 0))


class Best(unittest.TestCase):
    def assert_best(self, ranking, word, wanted):
        told = best(ranking, word)
        self.assertEqual(told, wanted)
        self.assertIs(type(told), list)
        self.assertTrue(all(type(number) is int for number in told))

    def test_the_ranking_chooses(self):
        word = word_of(2, [[0, 3], [1, 0]])
        self.assert_best((0, 1), word, [0])
        self.assert_best((1, 0), word, [1])

    def test_a_tie_at_the_highest_wish_goes_on_below(self):
        word = word_of(3, [[0, 2, 1], [0, 1, 5], [0, 1, 4], [1, 0, 0]])
        self.assert_best((0, 1, 2), word, [2])
        self.assert_best((0, 2, 1), word, [0])
        self.assert_best((1, 0, 2), word, [3])

    def test_alike_sayings_are_best_together(self):
        word = word_of(2, [[3, 3], [0, 1], [2, 0], [0, 1], [2, 0], [0, 1]])
        self.assert_best((0, 1), word, [1, 3, 5])
        self.assert_best((1, 0), word, [2, 4])

    def test_all_sayings_alike(self):
        for many in (1, 2, 12):
            for ranking in rankings(3):
                with self.subTest(many=many, ranking=ranking):
                    self.assert_best(ranking, ((4, 0, 4),) * many, list(range(many)))

    def test_one_saying(self):
        for count in range(1, 7):
            for ranking in rankings(count):
                with self.subTest(ranking=ranking):
                    self.assert_best(ranking, (tuple(range(count)),), [0])

    def test_the_last_of_twelve_sayings(self):
        word = word_of(2, [[12 - number, 0] for number in range(12)])
        self.assert_best((0, 1), word, [11])
        self.assert_best((1, 0), word, [11])

    def test_six_wishes(self):
        word = word_of(6, [[0, 0, 0, 0, 0, 1], [1, 0, 0, 0, 0, 0], [0, 0, 0, 0, 0, 1]])
        self.assert_best((0, 1, 2, 3, 4, 5), word, [0, 2])
        self.assert_best((4, 3, 5, 2, 1, 0), word, [1])

    def test_numbers_of_forty_figures(self):
        word = word_of(2, [[FORTY, 0], [FORTY - 1, FORTY], [FORTY - 1, FORTY - 1], [FORTY, 0]])
        self.assert_best((0, 1), word, [2])
        self.assert_best((1, 0), word, [0, 3])

    def test_all_rankings_of_small_counts_against_a_plain_reading(self):
        for count, most, longest in ((1, 3, 4), (2, 3, 3), (3, 2, 3)):
            every = list(itertools.product(range(most), repeat=count))
            for many in range(1, longest + 1):
                for word in itertools.product(every, repeat=many):
                    for ranking in itertools.permutations(range(count)):
                        self.assertEqual(best(ranking, word), plainly_best(ranking, word), (ranking, word))

    def test_rising_places_of_long_words(self):
        for step in range(1, 12):
            rows = [[number * step % 4, number * 5 % 3, number * step % 3] for number in range(12)]
            word = word_of(3, rows)
            for ranking in rankings(3):
                with self.subTest(step=step, ranking=ranking):
                    self.assert_best(ranking, word, plainly_best(ranking, word))
                    self.assertEqual(best(ranking, word), sorted(set(best(ranking, word))))

    def test_the_told_list_is_the_askers_own(self):
        word = word_of(2, [[0, 1], [0, 1], [1, 0]])
        told = best((0, 1), word)
        told.reverse()
        told.append(7)
        again = best((0, 1), word)
        self.assertEqual(again, [0, 1])
        best((1, 0), word).clear()
        self.assertEqual(again, [0, 1])
        again.clear()
        self.assertEqual(best((0, 1), word), [0, 1])

    def test_what_is_handed_in_is_not_changed(self):
        word = word_of(2, [[2, 1], [0, 1], [1, 0]])
        before = copy.deepcopy(word)
        best((1, 0), word)
        self.assertEqual(word, before)

    def test_what_is_no_ranking(self):
        for ranking in BAD_RANKINGS:
            for word in (((0, 1, 2),), ((0, 1, 2), (1, 0, 2)), ((0, 0, 0), (0, 0, 0))):
                with self.subTest(ranking=ranking, word=word):
                    with self.assertRaises(NoRanking):
                        best(ranking, word)

    def test_rankings_of_other_counts(self):
        for count, other in UNLIKE_COUNTS:
            with self.subTest(count=count, other=other):
                with self.assertRaises(NoRanking):
                    best(tuple(range(other)), ((0,) * count, (1,) * count))

    def test_truths_are_no_wishes(self):
        for ranking in ((False, True), (0, True), (False, 1), (True, 0)):
            with self.assertRaises(NoRanking):
                best(ranking, ((0, 1), (1, 0)))

    def test_more_sayings_than_a_word_has_are_not_refused(self):
        self.assert_best((0, 1), ((1, 0), (0, 1)) * 7, [1, 3, 5, 7, 9, 11, 13])

    def test_no_sayings_are_not_refused(self):
        self.assert_best((0, 1), (), [])
        with self.assertRaises(NoRanking):
            best((0, 0), ())


if __name__ == "__main__":
    unittest.main()
