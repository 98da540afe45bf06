"""Points 2, 3, 5 and 6: marks and words."""

import copy
import unittest

from plain import BAD_COUNTS, FORTY
from tonguerank.errors import NoCount, NoMarks, NoWord
from tonguerank.words import word_of


class Told(unittest.TestCase):
    def assert_word(self, told, wanted):
        self.assertEqual(told, wanted)
        self.assertIs(type(told), tuple)
        for marks in told:
            self.assertIs(type(marks), tuple)
            for number in marks:
                self.assertIs(type(number), int)

    def test_rows_as_lists(self):
        self.assert_word(word_of(2, [[0, 3], [1, 0]]), ((0, 3), (1, 0)))

    def test_rows_as_tuples(self):
        self.assert_word(word_of(3, [(0, 3, 1), (1, 0, 2)]), ((0, 3, 1), (1, 0, 2)))

    def test_rows_as_lists_and_tuples(self):
        self.assert_word(word_of(2, [(0, 3), [1, 0], (2, 2)]), ((0, 3), (1, 0), (2, 2)))

    def test_each_count_from_one_to_six(self):
        for count in range(1, 7):
            with self.subTest(count=count):
                rising = list(range(count))
                falling = list(reversed(rising))
                self.assert_word(word_of(count, [falling, rising]), (tuple(falling), tuple(rising)))

    def test_one_wish(self):
        self.assert_word(word_of(1, [[5], [0]]), ((5,), (0,)))

    def test_six_wishes(self):
        self.assert_word(word_of(6, [[6, 5, 4, 3, 2, 1]]), ((6, 5, 4, 3, 2, 1),))

    def test_each_number_of_sayings_from_one_to_twelve(self):
        for many in range(1, 13):
            with self.subTest(many=many):
                rows = [[many - number, number] for number in range(many)]
                wanted = tuple((many - number, number) for number in range(many))
                self.assert_word(word_of(2, rows), wanted)

    def test_alike_sayings_all_stay(self):
        self.assert_word(word_of(2, [[1, 0], [2, 2], [1, 0], [1, 0]]), ((1, 0), (2, 2), (1, 0), (1, 0)))
        self.assert_word(word_of(1, [[0]] * 12), ((0,),) * 12)

    def test_the_order_of_rows_and_numbers_stays(self):
        self.assert_word(word_of(3, [[9, 1, 5], [0, 0, 0], [3, 8, 2]]), ((9, 1, 5), (0, 0, 0), (3, 8, 2)))

    def test_marks_of_0_alone(self):
        self.assert_word(word_of(3, [[0, 0, 0]]), ((0, 0, 0),))

    def test_numbers_of_forty_figures(self):
        self.assertEqual(len(str(FORTY)), 40)
        self.assert_word(word_of(2, [[FORTY, FORTY - 1], [10 ** 39, 0]]), ((FORTY, FORTY - 1), (10 ** 39, 0)))

    def test_its_own_answer_handed_in_again(self):
        told = word_of(2, [[0, FORTY], (1, 0)])
        self.assert_word(word_of(2, told), ((0, FORTY), (1, 0)))
        self.assert_word(word_of(2, list(told)), ((0, FORTY), (1, 0)))

    def test_the_same_asked_again(self):
        rows = [[0, 3], (1, 0)]
        self.assertEqual(word_of(2, rows), word_of(2, rows))


class HandedIn(unittest.TestCase):
    def test_what_is_handed_in_is_not_changed(self):
        rows = [[2, 1], (1, 3), [0, 0]]
        before = copy.deepcopy(rows)
        word_of(2, rows)
        self.assertEqual(rows, before)
        self.assertEqual([type(row) for row in rows], [list, tuple, list])

    def test_what_is_refused_is_not_changed(self):
        rows = [[2, 1], [1], [-1, 0]]
        before = copy.deepcopy(rows)
        with self.assertRaises(NoMarks):
            word_of(2, rows)
        self.assertEqual(rows, before)

    def test_lists_changed_behind_the_call(self):
        inner = [0, 3]
        rows = [inner, [1, 0], inner]
        told = word_of(2, rows)
        inner[0] = 9
        inner.append(4)
        rows.append([5, 5])
        rows[1] = [7, 7]
        self.assertEqual(told, ((0, 3), (1, 0), (0, 3)))


class Refused(unittest.TestCase):
    def test_counts_that_are_none(self):
        for count in BAD_COUNTS:
            with self.subTest(bits=count.bit_length(), below=count < 0):
                with self.assertRaises(NoCount):
                    word_of(count, [[1, 0]])

    def test_counts_just_beyond_with_rows_as_long(self):
        for count in (0, 7):
            with self.subTest(count=count):
                with self.assertRaises(NoCount):
                    word_of(count, [[1] * count])

    def test_a_truth_is_no_count(self):
        for count in (True, False):
            with self.subTest(count=count):
                with self.assertRaises(NoCount):
                    word_of(count, [[1]])

    def test_rows_too_short_or_too_long(self):
        for row in ([], [1], [1, 2], [1, 2, 3, 4], (), (1, 2), (0, 0, 0, 0)):
            with self.subTest(row=row):
                with self.assertRaises(NoMarks):
                    word_of(3, [row])

    def test_numbers_below_0(self):
        for row in ([-1, 0], [0, -1], (-1, -1), [5, -FORTY]):
            with self.subTest(row=row):
                with self.assertRaises(NoMarks):
                    word_of(2, [row])

    def test_truths_are_no_marks(self):
        for row in ([True, 0], (0, False)):
            with self.subTest(row=row):
                with self.assertRaises(NoMarks):
                    word_of(2, [row])

    def test_one_wrong_row_at_whatever_place(self):
        for wrong in ([1], [1, 2, 3], [0, -1]):
            for place in range(12):
                with self.subTest(wrong=wrong, place=place):
                    rows = [[1, 1] for number in range(12)]
                    rows[place] = wrong
                    with self.assertRaises(NoMarks):
                        word_of(2, rows)

    def test_no_rows(self):
        for rows in ([], ()):
            with self.subTest(rows=rows):
                with self.assertRaises(NoWord):
                    word_of(2, rows)

    def test_more_than_twelve_rows(self):
        for many in (13, 14, 50):
            with self.subTest(many=many):
                with self.assertRaises(NoWord):
                    word_of(2, [[0, 1]] * many)


class OrderOfRefusals(unittest.TestCase):
    def test_no_count_goes_ahead_of_no_marks(self):
        for rows in ([[1, -1]], [[1]], [[1, 2, 3]]):
            for count in (0, 7, -2):
                with self.subTest(rows=rows, count=count):
                    with self.assertRaises(NoCount):
                        word_of(count, rows)

    def test_no_count_goes_ahead_of_no_word(self):
        for rows in ([], [[0] * 7] * 13):
            for count in (0, 7, -2):
                with self.subTest(rows=rows, count=count):
                    with self.assertRaises(NoCount):
                        word_of(count, rows)

    def test_no_count_goes_ahead_of_both(self):
        with self.assertRaises(NoCount):
            word_of(7, [[-1]] * 13)

    def test_no_marks_goes_ahead_of_no_word(self):
        for wrong in ([1], [1, 2, 3], [0, -1]):
            for many, place in ((13, 0), (13, 11), (13, 12), (14, 13), (50, 49)):
                with self.subTest(wrong=wrong, many=many, place=place):
                    rows = [[1, 1] for number in range(many)]
                    rows[place] = wrong
                    with self.assertRaises(NoMarks):
                        word_of(2, rows)


if __name__ == "__main__":
    unittest.main()
