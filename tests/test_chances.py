"""Points 2 to 4 and 19: sayings with a chance."""

import itertools
import unittest

from plain import (
    FORTY, assert_clashing_places, assert_pair, assert_tuple_of_numbers, every_ranking, mixed_word, plain_bests,
    plain_row,
)
from tonguerank.chances import chance
from tonguerank.errors import NoSaying, RankError
from tonguerank.many import first_ranking
from tonguerank.rankings import best, rankings
from tonguerank.rows import row_of
from tonguerank.words import word_of

FAR = 10 ** 39 - 1


def plainly_has_chance(word, number):
    """All rankings by which the saying is among the best, in order."""
    return [ranking for ranking in every_ranking(len(word[0])) if number in plain_bests(ranking, word)]


class ChanceCase(unittest.TestCase):
    def assert_told(self, word, number):
        told = chance(word, number)
        assert_pair(self, told)
        having = plainly_has_chance(word, number)
        self.assertIs(told[0], bool(having), (word, number))
        if having:
            assert_tuple_of_numbers(self, told[1])
            self.assertEqual(told[1], having[0], (word, number))
        else:
            self.assertNotIn(number, told[1])
            rows = [plain_row(word[number], marks) for marks in word]
            assert_clashing_places(self, len(word[0]), rows, told[1])
        return told

    def assert_all_told(self, word):
        for number in range(len(word)):
            self.assert_told(word, number)

    def assert_no_saying(self, word, number):
        with self.assertRaises(RankError) as taken:
            chance(word, number)
        self.assertIs(type(taken.exception), NoSaying)


class Told(ChanceCase):
    def test_one_saying(self):
        for count in range(1, 7):
            for marks in ((0,) * count, tuple(range(count)), (FORTY,) * count):
                self.assertEqual(self.assert_told((marks,), 0), (True, tuple(range(count))))

    def test_alike_sayings(self):
        self.assertEqual(self.assert_told(((3, 1),) * 12, 7), (True, (0, 1)))
        word = word_of(2, [[2, 0], [0, 1], [2, 0], [0, 1]])
        for number in (0, 2):
            self.assertEqual(self.assert_told(word, number), (True, (1, 0)))
        for number in (1, 3):
            self.assertEqual(self.assert_told(word, number), (True, (0, 1)))

    def test_alike_sayings_without_a_chance(self):
        word = ((1, 1), (0, 0), (1, 1), (0, 0))
        for number in (0, 2):
            told = self.assert_told(word, number)
            self.assertIs(told[0], False)
            self.assertTrue(set(told[1]) & {1, 3})

    def test_the_first_ranking_of_several(self):
        word = word_of(3, [[1, 0, 0], [0, 1, 1]])
        self.assertEqual(self.assert_told(word, 0), (True, (1, 0, 2)))
        self.assertEqual(self.assert_told(word, 1), (True, (0, 1, 2)))
        word = word_of(3, [[1, 1, 0], [0, 1, 1], [1, 0, 1]])
        self.assertEqual(self.assert_told(word, 0), (True, (2, 0, 1)))

    def test_another_saying_is_better_at_each_wish(self):
        word = word_of(2, [[0, 3], [1, 4], [5, 0]])
        told = self.assert_told(word, 1)
        self.assertIs(told[0], False)
        self.assertIn(0, told[1])

    def test_two_others_together_leave_no_chance(self):
        word = word_of(2, [[0, 3], [1, 1], [3, 0]])
        self.assertEqual(self.assert_told(word, 0), (True, (0, 1)))
        self.assertEqual(self.assert_told(word, 1), (False, [0, 2]))
        self.assertEqual(self.assert_told(word, 2), (True, (1, 0)))

    def test_the_places_are_those_of_the_word(self):
        word = word_of(3, [[1, 1, 1], [1, 1, 1], [0, 2, 2], [1, 1, 1], [2, 0, 2], [2, 2, 0], [1, 1, 1]])
        for number in (0, 1, 3, 6):
            told = self.assert_told(word, number)
            self.assertIs(told[0], False)
            self.assertTrue({2, 4, 5} <= set(told[1]))

    def test_one_and_six_wishes(self):
        self.assertEqual(self.assert_told(((1,), (0,), (1,), (0,)), 1), (True, (0,)))
        self.assertIs(self.assert_told(((1,), (0,), (1,), (0,)), 2)[0], False)
        word = word_of(6, [[0, 1, 1, 1, 1, 1], [1, 1, 1, 1, 1, 0], [1, 1, 0, 1, 1, 1]])
        self.assertEqual(self.assert_told(word, 0), (True, (0, 1, 2, 3, 4, 5)))
        self.assertEqual(self.assert_told(word, 1), (True, (1, 3, 4, 5, 0, 2)))
        self.assertEqual(self.assert_told(word, 2), (True, (1, 2, 0, 3, 4, 5)))

    def test_twelve_sayings(self):
        word = word_of(2, [[number, 11 - number] for number in range(12)])
        for number in range(12):
            self.assertIs(self.assert_told(word, number)[0], number in (0, 11))

    def test_marks_of_thirty_nine_figures(self):
        self.assertEqual(len(str(FAR)), 39)
        word = word_of(2, [[FAR, FAR - 1], [FAR - 1, FAR], [FAR, FAR], [FAR - 1, FAR]])
        self.assertEqual(self.assert_told(word, 0), (True, (1, 0)))
        self.assertEqual(self.assert_told(word, 1), (True, (0, 1)))
        self.assertIs(self.assert_told(word, 2)[0], False)
        self.assertEqual(self.assert_told(word, 3), (True, (0, 1)))

    def test_more_sayings_than_a_word_has_and_seven_wishes_are_not_refused(self):
        self.assertEqual(chance(((1, 0), (0, 1)) * 7, 12), (True, (1, 0)))
        self.assertEqual(chance(((1,) * 7, (0,) + (1,) * 6), 0), (False, [1]))


class AgainstAllRankings(ChanceCase):
    def test_all_words_of_small_counts(self):
        for count, most, longest in ((1, 3, 4), (2, 3, 3), (3, 2, 3)):
            every = list(itertools.product(range(most), repeat=count))
            for many in range(1, longest + 1):
                for word in itertools.product(every, repeat=many):
                    self.assert_all_told(word)

    def test_mixed_words(self):
        for seed in range(25):
            self.assert_all_told(mixed_word(3, 12, 4, seed))
            self.assert_all_told(mixed_word(4, 2 + seed % 11, 3, seed))
        for seed in range(3):
            self.assert_all_told(mixed_word(6, 8, 3, seed))

    def test_what_the_other_parts_tell(self):
        for seed in range(25):
            word = mixed_word(4, 7, 3, seed)
            for number in range(7):
                told = chance(word, number)
                having = [ranking for ranking in rankings(4) if number in best(ranking, word)]
                self.assertEqual(told[0], bool(having))
                rows = [row_of(word[number], marks) for marks in word]
                self.assertEqual(told[1] if told[0] else None, first_ranking(4, rows))


class Refused(ChanceCase):
    def test_numbers_that_are_no_sayings(self):
        for many in (1, 2, 12):
            word = ((0, 1),) * many
            for number in (-1, -2, -many, -many - 1, many, many + 1, FORTY, -FORTY, 10 ** 5000, -10 ** 5000):
                self.assert_no_saying(word, number)
            self.assertIs(chance(word, many - 1)[0], True)

    def test_numbers_that_are_no_sayings_where_no_saying_but_one_has_a_chance(self):
        word = ((0, 0), (1, 1))
        for number in (-1, -2, 2):
            self.assert_no_saying(word, number)

    def test_refused_twice_in_a_row(self):
        for turn in range(2):
            self.assert_no_saying(((0, 1), (1, 0)), 2)
        self.assertEqual(chance(((0, 1), (1, 0)), 1), (True, (1, 0)))

    def test_truths_are_no_numbers(self):
        for number in (True, False):
            self.assert_no_saying(((0, 1), (1, 0)), number)


class OwnLists(ChanceCase):
    def test_the_told_list_changed_and_asked_again(self):
        word = word_of(2, [[0, 3], [1, 1], [3, 0]])
        told = chance(word, 1)
        told[1].append(9)
        again = chance(word, 1)
        self.assertEqual(again, (False, [0, 2]))
        chance(word, 1)[1].clear()
        self.assertEqual(again, (False, [0, 2]))
        self.assertEqual(word, ((0, 3), (1, 1), (3, 0)))

    def test_the_same_asked_again(self):
        for seed in range(10):
            word = mixed_word(3, 6, 3, seed)
            for number in range(6):
                self.assertEqual(chance(word, number), chance(tuple(list(word)), number))


if __name__ == "__main__":
    unittest.main()
