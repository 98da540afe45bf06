"""Points 2, 3 and 9 to 11: rows, which rankings fit them, and the fused row."""

import itertools
import unittest

from plain import (
    BAD_COUNTS, BAD_RANKINGS, FORTY, UNLIKE_COUNTS, every_ranking, every_row, mixed_rows, plainly_clash,
    plainly_fused, ranking_fits, rankings_that_fit,
)
from tonguerank.errors import NoCount, NoRanking, NoRow
from tonguerank.rankings import beats
from tonguerank.rows import fits, fused, row_of, rows_of

# None of them is a row of three wishes: signs that are none, then signs too few or too many.
BAD_TEXTS = (
    "wee", "eew", "WEe", "EEE", "W L", " eL", "eL ", "   ", "~eL", "eL~", "e~L", "leW", "W-L", "0eL", "WxL", "We\n",
    "", "W", "WL", "ee", "WeLe", "WeLW", "eeee", "WeLWeL", "WeL ", " WeL", "e" * 200, "~" * 200, "W,e,L",
)


class RowsOf(unittest.TestCase):
    def assert_rows(self, told, wanted):
        self.assertEqual(told, wanted)
        self.assertIs(type(told), list)
        self.assertTrue(all(type(row) is str for row in told))

    def test_no_texts(self):
        for count in range(1, 7):
            with self.subTest(count=count):
                self.assert_rows(rows_of(count, []), [])

    def test_one_text(self):
        self.assert_rows(rows_of(3, ["WeL"]), ["WeL"])

    def test_fifty_texts(self):
        texts = (every_row(4) * 2)[:50]
        self.assert_rows(rows_of(4, texts), list(texts))

    def test_one_wish(self):
        self.assert_rows(rows_of(1, ["L", "W", "e"]), ["L", "W", "e"])

    def test_six_wishes(self):
        self.assert_rows(rows_of(6, ["WeLWeL", "LLLLLL", "eeeeee"]), ["WeLWeL", "LLLLLL", "eeeeee"])

    def test_each_row_of_each_count(self):
        for count in range(1, 7):
            for row in every_row(count):
                self.assertEqual(rows_of(count, [row]), [row])

    def test_the_order_and_alike_rows_stay(self):
        self.assert_rows(rows_of(2, ["WL", "ee", "LW", "WL", "ee"]), ["WL", "ee", "LW", "WL", "ee"])

    def test_more_than_fifty_texts_are_not_refused(self):
        self.assert_rows(rows_of(2, ["WL"] * 53), ["WL"] * 53)

    def test_its_own_answer_handed_in_again(self):
        self.assert_rows(rows_of(2, rows_of(2, ["WL", "ee"])), ["WL", "ee"])

    def test_the_told_list_is_the_askers_own(self):
        texts = ["WL", "ee"]
        told = rows_of(2, texts)
        told.reverse()
        told.append("more")
        self.assertEqual(texts, ["WL", "ee"])
        again = rows_of(2, texts)
        self.assertEqual(again, ["WL", "ee"])
        rows_of(2, texts).clear()
        self.assertEqual(again, ["WL", "ee"])

    def test_the_handed_in_list_changed_behind_the_call(self):
        texts = ["WL", "ee"]
        told = rows_of(2, texts)
        texts[0] = "LL"
        texts.append("WW")
        self.assertEqual(told, ["WL", "ee"])

    def test_the_handed_in_list_is_not_changed_where_it_is_refused(self):
        texts = ["WL", "e"]
        with self.assertRaises(NoRow):
            rows_of(2, texts)
        self.assertEqual(texts, ["WL", "e"])


class RowsOfRefused(unittest.TestCase):
    def test_what_is_no_row(self):
        for text in BAD_TEXTS:
            with self.subTest(text=text):
                with self.assertRaises(NoRow):
                    rows_of(3, [text])

    def test_each_sign_that_is_none(self):
        for code in range(ord(" "), ord("~") + 1):
            for place in range(3):
                text = "WeL"[:place] + chr(code) + "WeL"[place + 1:]
                with self.subTest(text=text):
                    if chr(code) in ("W", "e", "L"):
                        self.assertEqual(rows_of(3, [text]), [text])
                    else:
                        with self.assertRaises(NoRow):
                            rows_of(3, [text])

    def test_rows_of_other_counts(self):
        for count, other in UNLIKE_COUNTS:
            with self.subTest(count=count, other=other):
                with self.assertRaises(NoRow):
                    rows_of(count, ["e" * other])

    def test_the_empty_text(self):
        for count in range(1, 7):
            with self.subTest(count=count):
                with self.assertRaises(NoRow):
                    rows_of(count, [""])

    def test_one_bad_text_at_whatever_place(self):
        for text in BAD_TEXTS:
            for many, place in ((2, 0), (2, 1), (50, 0), (50, 25), (50, 49)):
                texts = ["WeL"] * many
                texts[place] = text
                with self.subTest(text=text, many=many, place=place):
                    with self.assertRaises(NoRow):
                        rows_of(3, texts)

    def test_counts_that_are_none(self):
        for count in BAD_COUNTS + (True, False):
            for texts in ([], [""], ["W"], ["WeLWeLW"], ["WeLWeLWe"]):
                with self.subTest(bits=count.bit_length(), below=count < 0, texts=texts):
                    with self.assertRaises(NoCount):
                        rows_of(count, texts)

    def test_no_count_goes_ahead_of_no_row(self):
        for count in BAD_COUNTS:
            for text in BAD_TEXTS:
                with self.subTest(bits=count.bit_length(), below=count < 0, text=text):
                    with self.assertRaises(NoCount):
                        rows_of(count, [text])
                    with self.assertRaises(NoCount):
                        rows_of(count, [text] + ["WeL"] * 49)
                    with self.assertRaises(NoCount):
                        rows_of(count, ["WeL"] * 49 + [text])


class RowOf(unittest.TestCase):
    def assert_row(self, one, two, wanted):
        told = row_of(one, two)
        self.assertEqual(told, wanted)
        self.assertIs(type(told), str)

    def test_fewer_more_and_as_many(self):
        self.assert_row((0, 4, 2), (1, 4, 0), "WeL")
        self.assert_row((1, 4, 0), (0, 4, 2), "LeW")
        self.assert_row((0,), (1,), "W")
        self.assert_row((1,), (0,), "L")
        self.assert_row((1,), (1,), "e")

    def test_how_many_fewer_does_not_matter(self):
        self.assert_row((0, 0, 9, 9), (1, 9, 8, 0), "WWLL")

    def test_figures_do_not_matter_but_numbers_do(self):
        self.assert_row((9, 10, 100), (10, 9, 99), "WLL")

    def test_six_wishes(self):
        self.assert_row((0, 1, 2, 3, 4, 5), (5, 4, 3, 2, 1, 0), "WWWLLL")
        self.assert_row((0, 1, 2, 3, 4, 5), (0, 1, 3, 2, 4, 5), "eeWLee")

    def test_numbers_of_forty_figures(self):
        self.assertEqual(len(str(FORTY)), 40)
        self.assert_row((FORTY - 1, FORTY, FORTY, 0), (FORTY, 10 ** 40 - 1, FORTY - 1, FORTY), "WeLW")

    def test_marks_against_themselves(self):
        for marks in ((0,), (FORTY, 0), (3, 1, 2), (0, 0, 0, 0, 0, 0)):
            with self.subTest(marks=marks):
                self.assert_row(marks, marks, "e" * len(marks))
                self.assert_row(marks, tuple(list(marks)), "e" * len(marks))

    def test_both_ways_about(self):
        other_way = {"W": "L", "e": "e", "L": "W"}
        every = list(itertools.product((0, 1, FORTY), repeat=3))
        for one, two in itertools.product(every, repeat=2):
            told = row_of(one, two)
            for mine, other, sign in zip(one, two, told, strict=True):
                self.assertEqual(sign, "W" if mine < other else "L" if mine > other else "e")
            self.assertEqual(row_of(two, one), "".join(other_way[sign] for sign in told))

    def test_it_can_be_handed_in_as_a_row(self):
        for one, two in itertools.product(itertools.product(range(3), repeat=2), repeat=2):
            self.assertEqual(rows_of(2, [row_of(one, two)]), [row_of(one, two)])


class Fits(unittest.TestCase):
    def assert_fits(self, ranking, row, wanted):
        self.assertIs(fits(ranking, row), wanted, (ranking, row))

    def test_one_win_and_one_loss(self):
        self.assert_fits((0, 1), "WL", True)
        self.assert_fits((1, 0), "WL", False)
        self.assert_fits((0, 1), "LW", False)
        self.assert_fits((1, 0), "LW", True)

    def test_one_win_is_enough_for_all_losses(self):
        self.assert_fits((0, 1, 2, 3), "WLLW", True)
        self.assert_fits((3, 1, 2, 0), "WLLW", True)
        self.assert_fits((1, 0, 3, 2), "WLLW", False)

    def test_each_loss_needs_a_win_ahead(self):
        self.assert_fits((1, 0, 2), "WLL", False)
        self.assert_fits((2, 0, 1), "WLL", False)
        self.assert_fits((0, 2, 1), "WLL", True)

    def test_wishes_with_e_do_not_matter(self):
        self.assert_fits((1, 0, 2), "WeL", True)
        self.assert_fits((1, 2, 0), "WeL", False)

    def test_rows_of_e_alone_fit(self):
        for count in range(1, 7):
            for ranking in every_ranking(count):
                self.assert_fits(ranking, "e" * count, True)

    def test_rows_of_wins_and_no_loss_fit(self):
        for row in ("WWW", "Wee", "eWe", "eeW", "WeW"):
            for ranking in every_ranking(3):
                self.assert_fits(ranking, row, True)

    def test_rows_of_losses_and_no_win_do_not_fit(self):
        for row in ("LLL", "Lee", "eLe", "eeL", "LeL"):
            for ranking in every_ranking(3):
                self.assert_fits(ranking, row, False)

    def test_one_wish(self):
        self.assert_fits((0,), "W", True)
        self.assert_fits((0,), "e", True)
        self.assert_fits((0,), "L", False)

    def test_six_wishes(self):
        self.assert_fits((5, 4, 3, 2, 1, 0), "LeeeeW", True)
        self.assert_fits((5, 4, 3, 2, 1, 0), "WeeeeL", False)
        self.assert_fits((2, 3, 1, 4, 0, 5), "LeeeLW", False)

    def test_all_rows_and_rankings_of_small_counts_against_a_plain_reading(self):
        for count in range(1, 5):
            for ranking in every_ranking(count):
                for row in every_row(count):
                    self.assert_fits(ranking, row, ranking_fits(ranking, row))

    def test_many_rows_of_six_wishes_against_a_plain_reading(self):
        for ranking in every_ranking(6)[::7]:
            for row in mixed_rows(6, 40, len(ranking)):
                self.assert_fits(ranking, row, ranking_fits(ranking, row))

    def test_against_beats(self):
        for count, most in ((1, 3), (2, 3), (3, 3), (4, 2)):
            every = list(itertools.product(range(most), repeat=count))
            for ranking in every_ranking(count):
                for one, two in itertools.product(every, repeat=2):
                    self.assert_fits(ranking, row_of(one, two), not beats(ranking, two, one))

    def test_asked_again(self):
        for turn in range(3):
            self.assert_fits((1, 0, 2), "WLL", False)
            self.assert_fits((0, 2, 1), "WLL", True)

    def test_seven_wishes_are_not_refused(self):
        self.assert_fits((6, 5, 4, 3, 2, 1, 0), "LeeeeeW", True)
        self.assert_fits((0, 1, 2, 3, 4, 5, 6), "LeeeeeW", False)

    def test_what_is_no_ranking(self):
        for ranking in BAD_RANKINGS:
            for row in ("WeL", "LeW", "eee", "WWW", "LLL", "LWe"):
                with self.subTest(ranking=ranking, row=row):
                    with self.assertRaises(NoRanking):
                        fits(ranking, row)

    def test_rankings_of_other_counts(self):
        for count, other in UNLIKE_COUNTS:
            for row in ("e" * count, "W" * count, "L" * count):
                with self.subTest(row=row, other=other):
                    with self.assertRaises(NoRanking):
                        fits(tuple(range(other)), row)

    def test_truths_are_no_wishes(self):
        with self.assertRaises(NoRanking):
            fits((False, True), "WL")


class Fused(unittest.TestCase):
    def assert_fused(self, count, rows, wanted):
        told = fused(count, rows)
        self.assertEqual(told, wanted)
        self.assertIs(type(told), str)

    def test_no_rows(self):
        for count in range(1, 7):
            with self.subTest(count=count):
                self.assert_fused(count, [], "e" * count)

    def test_one_row(self):
        for count in (1, 2, 3, 6):
            for row in every_row(count):
                self.assertEqual(fused(count, [row]), row)

    def test_two_rows(self):
        self.assert_fused(3, ["WeL", "eWe"], "WWL")
        self.assert_fused(3, ["WLe", "eWL"], "WLL")
        self.assert_fused(2, ["WL", "LW"], "LL")

    def test_each_two_signs(self):
        wanted = {"WW": "W", "We": "W", "WL": "L", "ee": "e", "eW": "W", "eL": "L", "LL": "L", "LW": "L", "Le": "L"}
        for signs, sign in wanted.items():
            with self.subTest(signs=signs):
                self.assert_fused(1, list(signs), sign)

    def test_several_rows(self):
        self.assert_fused(4, ["WLee", "eWLe", "eeWe"], "WLLe")
        self.assert_fused(6, ["Weeeee", "eWeeee", "eeLeee", "eeeeWe", "eeeeLe"], "WWLeLe")

    def test_the_same_row_twice(self):
        for row in every_row(3):
            self.assertEqual(fused(3, [row, row]), row)

    def test_fifty_rows(self):
        self.assert_fused(3, ["eee"] * 49 + ["LWe"], "LWe")
        self.assert_fused(3, ["LWe"] + ["WWe"] * 49, "LWe")

    def test_the_rows_the_other_way_round(self):
        for rows in itertools.product(every_row(2), repeat=3):
            told = fused(2, list(rows))
            self.assertEqual(told, plainly_fused(2, rows))
            self.assertEqual(told, fused(2, list(reversed(rows))))

    def test_rows_of_three_wishes_against_a_plain_reading(self):
        for rows in itertools.product(every_row(3), repeat=2):
            self.assert_fused(3, list(rows), plainly_fused(3, rows))

    def test_a_ranking_that_fits_all_rows_fits_their_fused_row(self):
        for many in range(4):
            for rows in itertools.combinations_with_replacement(every_row(3), many):
                row = fused(3, list(rows))
                fitting = rankings_that_fit(3, rows)
                self.assertTrue(all(fits(ranking, row) for ranking in fitting), rows)
                if "L" in row and "W" not in row:
                    self.assertTrue(plainly_clash(3, rows), rows)
                    self.assertEqual(fitting, [], rows)

    def test_seven_wishes_and_more_than_fifty_rows_are_not_refused(self):
        self.assert_fused(7, ["WeLWeLW", "eeeeeeL"] * 26, "WeLWeLL")

    def test_what_is_handed_in_is_not_changed(self):
        rows = ["WeL", "LeW"]
        for turn in range(3):
            self.assert_fused(3, rows, "LeL")
        self.assertEqual(rows, ["WeL", "LeW"])


if __name__ == "__main__":
    unittest.main()
