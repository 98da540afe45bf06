"""Points 2 to 4, 8, 10 and 16: how many rankings fit all of some rows, and the first of them."""

import itertools
import math
import unittest

from plain import (
    assert_tuple_of_numbers, every_ranking, every_row, mixed_rows, mixed_rows_that_fit, ranking_fits,
    rankings_that_fit,
)
from tonguerank.floors import floors
from tonguerank.many import first_ranking, how_many
from tonguerank.rankings import rankings
from tonguerank.rows import fits

CHAIN = ["WLeeee", "eWLeee", "eeWLee", "eeeWLe", "eeeeWL"]
CLASHES = (
    (1, ["L"]), (1, ["W", "L"]), (2, ["WL", "LW"]), (2, ["eL"]), (3, ["WLe", "eWL", "LeW"]), (3, ["LLL"]),
    (3, ["eee", "WLe", "LWe"]), (6, CHAIN + ["LeeeeW"]), (6, CHAIN * 9 + ["LeeeeW"]), (6, ["eeeeeL"] * 50),
)


class ManyCase(unittest.TestCase):
    def assert_told(self, count, rows, fitting):
        """The fitting rankings are all those that fit, in point 8's order."""
        many = how_many(count, rows)
        self.assertIs(type(many), int)
        self.assertEqual(many, len(fitting), rows)
        first = first_ranking(count, rows)
        if fitting:
            assert_tuple_of_numbers(self, first)
            self.assertEqual(first, fitting[0], rows)
        else:
            self.assertIsNone(first, rows)

    def assert_by_all_rankings(self, count, rows):
        self.assert_told(count, rows, rankings_that_fit(count, rows))


class Told(ManyCase):
    def test_no_rows(self):
        for count in range(1, 7):
            with self.subTest(count=count):
                self.assertEqual(how_many(count, []), math.factorial(count))
                self.assertEqual(first_ranking(count, []), tuple(range(count)))
                self.assert_by_all_rankings(count, [])

    def test_rows_without_losses(self):
        for rows in (["eee"], ["WWW"], ["eWe", "Wee", "eee"]):
            self.assertEqual(how_many(3, rows), 6)
            self.assertEqual(first_ranking(3, rows), (0, 1, 2))

    def test_one_wish(self):
        for rows in (["W"], ["e"], ["e", "W", "W"]):
            self.assertEqual(how_many(1, rows), 1)
            self.assertEqual(first_ranking(1, rows), (0,))
        self.assertEqual(how_many(1, ["e", "L"]), 0)
        self.assertIsNone(first_ranking(1, ["e", "L"]))

    def test_one_row(self):
        self.assertEqual(how_many(2, ["LW"]), 1)
        self.assertEqual(first_ranking(2, ["LW"]), (1, 0))
        self.assertEqual(how_many(3, ["LWe"]), 3)
        self.assertEqual(first_ranking(3, ["LWe"]), (1, 0, 2))
        self.assertEqual(first_ranking(3, ["LeW"]), (1, 2, 0))
        self.assertEqual(how_many(3, ["WWL"]), 4)
        self.assertEqual(how_many(3, ["WLL"]), 2)

    def test_the_first_ranking_need_not_go_by_the_floors(self):
        self.assertEqual(floors(3, ["WLe"]), (True, [[0, 2], [1]]))
        self.assertEqual(first_ranking(3, ["WLe"]), (0, 1, 2))

    def test_six_wishes(self):
        self.assertEqual(how_many(6, ["WLeeee"]), 360)
        self.assertEqual(how_many(6, ["eeeeLW"]), 360)
        self.assertEqual(first_ranking(6, ["eeeeLW"]), (0, 1, 2, 3, 5, 4))
        self.assertEqual(how_many(6, ["LLLLLW"]), 120)
        self.assertEqual(first_ranking(6, ["LLLLLW"]), (5, 0, 1, 2, 3, 4))
        self.assertEqual(how_many(6, ["WLeeee", "eeWLee", "eeeeWL"]), 90)

    def test_rows_that_one_ranking_alone_fits(self):
        self.assertEqual(how_many(6, CHAIN), 1)
        self.assertEqual(first_ranking(6, CHAIN), (0, 1, 2, 3, 4, 5))
        other_way = [row[::-1] for row in CHAIN]
        self.assertEqual(how_many(6, other_way), 1)
        self.assertEqual(first_ranking(6, other_way), (5, 4, 3, 2, 1, 0))

    def test_rows_that_clash(self):
        for count, rows in CLASHES:
            with self.subTest(count=count, rows=rows):
                self.assertEqual(how_many(count, rows), 0)
                self.assertIs(type(how_many(count, rows)), int)
                self.assertIsNone(first_ranking(count, rows))

    def test_the_same_row_twice_counts_once(self):
        for row in every_row(3):
            for many in (2, 50):
                self.assertEqual(how_many(3, [row] * many), how_many(3, [row]))
                self.assertEqual(first_ranking(3, [row] * many), first_ranking(3, [row]))

    def test_the_order_of_the_rows_does_not_matter(self):
        rows = ["WLee", "eWLe", "WLLW", "eeLW"]
        for mixed in itertools.permutations(rows):
            self.assertEqual(how_many(4, list(mixed)), how_many(4, rows))
            self.assertEqual(first_ranking(4, list(mixed)), first_ranking(4, rows))

    def test_seven_wishes_and_more_than_fifty_rows_are_not_refused(self):
        self.assertEqual(how_many(7, []), 5040)
        self.assertEqual(how_many(7, ["WeeeeeL"] * 53), 2520)
        self.assertEqual(first_ranking(7, ["LeeeeeW"] * 53), (1, 2, 3, 4, 5, 6, 0))
        self.assertIsNone(first_ranking(7, ["LeeeeeW", "WeeeeeL"] * 27))


class AgainstAllRankings(ManyCase):
    def test_rows_of_one_and_two_wishes(self):
        for count in (1, 2):
            for many in range(4):
                for rows in itertools.product(every_row(count), repeat=many):
                    self.assert_by_all_rankings(count, list(rows))

    def test_rows_of_three_and_four_wishes_one_and_two_at_once(self):
        for count in (3, 4):
            fitting = {
                row: [ranking for ranking in every_ranking(count) if ranking_fits(ranking, row)]
                for row in every_row(count)
            }
            for row in fitting:
                self.assert_told(count, [row], fitting[row])
            for one, two in itertools.product(fitting, repeat=2):
                both = [ranking for ranking in fitting[one] if ranking in fitting[two]]
                self.assert_told(count, [one, two], both)

    def test_three_rows_of_three_wishes(self):
        for rows in itertools.combinations(every_row(3), 3):
            self.assert_by_all_rankings(3, list(rows))

    def test_five_and_six_wishes(self):
        for count, seeds in ((5, 30), (6, 8)):
            for seed in range(seeds):
                hidden = every_ranking(count)[seed * 37 % math.factorial(count)]
                self.assert_by_all_rankings(count, mixed_rows(count, 1 + seed % 5, seed))
                self.assert_by_all_rankings(count, mixed_rows_that_fit(hidden, 1 + seed % 6, seed))

    def test_fifty_rows(self):
        for seed in range(6):
            for count in (2, 4, 6):
                hidden = every_ranking(count)[seed * 131 % math.factorial(count)]
                self.assert_by_all_rankings(count, mixed_rows(count, 50, seed))
                self.assert_by_all_rankings(count, mixed_rows_that_fit(hidden, 50, seed))

    def test_what_the_other_parts_tell(self):
        for seed in range(40):
            for count in (3, 5):
                rows = mixed_rows(count, 1 + seed % 6, seed)
                fitting = [ranking for ranking in rankings(count) if all(fits(ranking, row) for row in rows)]
                self.assert_told(count, rows, fitting)
                self.assertIs(floors(count, rows)[0], how_many(count, rows) > 0)


class HandedIn(unittest.TestCase):
    def test_what_is_handed_in_is_not_changed(self):
        for rows in (["WLe", "eWL"], ["WLe", "eWL", "LeW"], ["eee", "WLe"], []):
            kept = list(rows)
            how_many(3, rows)
            self.assertEqual(rows, kept)
            first_ranking(3, rows)
            self.assertEqual(rows, kept)

    def test_the_handed_in_list_changed_behind_the_call(self):
        rows = ["LWe"]
        told = (how_many(3, rows), first_ranking(3, rows))
        rows.append("WLe")
        self.assertEqual((how_many(3, rows), first_ranking(3, rows)), (0, None))
        rows.clear()
        self.assertEqual((how_many(3, rows), first_ranking(3, rows)), (6, (0, 1, 2)))
        self.assertEqual(told, (3, (1, 0, 2)))

    def test_the_same_asked_again(self):
        for seed in range(20):
            rows = mixed_rows(5, 4, seed)
            self.assertEqual(how_many(5, rows), how_many(5, list(rows)))
            self.assertEqual(first_ranking(5, rows), first_ranking(5, list(rows)))


if __name__ == "__main__":
    unittest.main()
