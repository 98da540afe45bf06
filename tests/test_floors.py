"""Points 2 to 4, 12 and 13: the floors of rows, or rows that clash."""

import itertools
import unittest

from plain import (
    assert_clashing_places, assert_pair, every_floors, every_ranking, every_row, floor_numbers, floors_fit,
    mixed_rows, mixed_rows_that_fit, ranking_fits, rankings_that_fit,
)
from tonguerank.floors import floors

EVERY_FLOORS = {count: every_floors(count) for count in range(1, 7)}


class FloorsCase(unittest.TestCase):
    def assert_are_floors(self, count, told):
        """Point 12's first sentence."""
        self.assertIs(type(told), list)
        for floor in told:
            self.assertIs(type(floor), list)
            self.assertTrue(floor)
            self.assertEqual(floor, sorted(set(floor)))
            self.assertTrue(all(type(wish) is int for wish in floor))
        self.assertEqual(sorted(wish for floor in told for wish in floor), list(range(count)))

    def assert_held_up(self, told, rows):
        """Point 13's first sentence: a row that holds each wish of a later floor where it stands."""
        numbers = floor_numbers(told)
        for wish, number in numbers.items():
            if number > 0:
                holding = [
                    row for row in rows if row[wish] == "L"
                    and all(numbers[other] >= number - 1 for other in numbers if row[other] == "W")
                ]
                self.assertTrue(holding, (told, rows, wish))

    def assert_as_high_as_may_be(self, count, told, rows):
        numbers = floor_numbers(told)
        for others in EVERY_FLOORS[count]:
            if all(floors_fit(others, row) for row in rows):
                other_numbers = floor_numbers(others)
                self.assertTrue(all(numbers[wish] <= other_numbers[wish] for wish in numbers), (told, others, rows))

    def assert_told(self, count, rows):
        told = floors(count, rows)
        assert_pair(self, told)
        fitting = rankings_that_fit(count, rows)
        self.assertIs(told[0], bool(fitting), rows)
        if told[0]:
            self.assert_are_floors(count, told[1])
            self.assertTrue(all(floors_fit(told[1], row) for row in rows), (told, rows))
            self.assert_held_up(told[1], rows)
            self.assert_as_high_as_may_be(count, told[1], rows)
        else:
            assert_clashing_places(self, count, rows, told[1])
            clashing = [rows[place] for place in told[1]]
            self.assertEqual(rankings_that_fit(count, clashing), [], (told, rows))
        return told


class Floors(FloorsCase):
    def assert_floors(self, count, rows, wanted):
        self.assertEqual(self.assert_told(count, rows), (True, wanted))

    def test_no_rows(self):
        for count in range(1, 7):
            with self.subTest(count=count):
                self.assert_floors(count, [], [list(range(count))])

    def test_rows_without_losses(self):
        self.assert_floors(3, ["eee"], [[0, 1, 2]])
        self.assert_floors(3, ["WWW", "eWe", "eee"], [[0, 1, 2]])

    def test_one_row(self):
        self.assert_floors(2, ["WL"], [[0], [1]])
        self.assert_floors(2, ["LW"], [[1], [0]])
        self.assert_floors(3, ["LWe"], [[1, 2], [0]])
        self.assert_floors(4, ["LWLW"], [[1, 3], [0, 2]])

    def test_some_win_ahead_is_enough(self):
        self.assert_floors(3, ["WWL", "LWe"], [[1], [0, 2]])

    def test_rows_that_one_ranking_alone_fits(self):
        self.assert_floors(3, ["LWe", "eLW"], [[2], [1], [0]])
        self.assert_floors(6, ["WLeeee", "eWLeee", "eeWLee", "eeeWLe", "eeeeWL"], [[0], [1], [2], [3], [4], [5]])
        self.assert_floors(6, ["eeeeLW", "eeeLWe", "eeLWee", "eLWeee", "LWeeee"], [[5], [4], [3], [2], [1], [0]])

    def test_wishes_without_need_stand_in_the_first_floor(self):
        self.assert_floors(6, ["eLeeWe", "eeeLWe", "LeeWee"], [[2, 4, 5], [1, 3], [0]])

    def test_one_wish(self):
        self.assert_floors(1, ["W", "e", "W"], [[0]])

    def test_fifty_rows(self):
        self.assert_floors(3, ["WLe", "eWL"] * 25, [[0], [1], [2]])
        self.assert_floors(3, ["eee"] * 49 + ["LeW"], [[1, 2], [0]])

    def test_the_order_of_the_rows_does_not_matter(self):
        rows = ["WLee", "eWLe", "WLLW", "eeee"]
        wanted = floors(4, rows)
        for mixed in itertools.permutations(rows):
            self.assertEqual(floors(4, list(mixed)), wanted)

    def test_rankings_that_go_by_the_floors_fit_all_rows(self):
        for seed in range(20):
            for hidden in every_ranking(4)[::5]:
                rows = mixed_rows_that_fit(hidden, 5, seed)
                numbers = floor_numbers(floors(4, rows)[1])
                for ranking in every_ranking(4):
                    if [numbers[wish] for wish in ranking] == sorted(numbers.values()):
                        self.assertTrue(all(ranking_fits(ranking, row) for row in rows), (ranking, rows))


class Clashing(FloorsCase):
    def assert_clash(self, count, rows):
        told = self.assert_told(count, rows)
        self.assertIs(told[0], False)
        return told[1]

    def test_one_row_of_losses_and_no_win(self):
        self.assertEqual(self.assert_clash(1, ["L"]), [0])
        self.assertEqual(self.assert_clash(3, ["eLe"]), [0])
        self.assertEqual(self.assert_clash(6, ["LLLLLL"]), [0])

    def test_one_such_row_among_others(self):
        for place in range(5):
            rows = ["WLe", "WeL", "WLL", "eWL", "eee"]
            rows.insert(place, "eLe")
            with self.subTest(place=place):
                self.assertIn(place, self.assert_clash(3, rows))

    def test_two_rows(self):
        self.assertEqual(self.assert_clash(2, ["WL", "LW"]), [0, 1])
        self.assertEqual(self.assert_clash(2, ["LW", "WL"]), [0, 1])

    def test_rows_that_only_together_clash(self):
        self.assertEqual(self.assert_clash(3, ["WLe", "eWL", "LeW"]), [0, 1, 2])
        rows = ["WLeeee", "eWLeee", "eeWLee", "eeeWLe", "eeeeWL", "LeeeeW"]
        self.assertEqual(self.assert_clash(6, rows), [0, 1, 2, 3, 4, 5])
        for place in range(6):
            self.assertIs(self.assert_told(6, rows[:place] + rows[place + 1:])[0], True)

    def test_the_places_are_those_of_the_handed_in_rows(self):
        rows = ["WLLLL", "eWWWe", "eeWLe", "eeeee", "WeLWe", "eeLWe", "WWWWW"]
        places = self.assert_clash(5, rows)
        self.assertIn(2, places)
        self.assertIn(5, places)

    def test_rows_that_a_higher_wish_fits_are_left_out(self):
        self.assertEqual(self.assert_clash(3, ["WLe", "eWL", "eLW"]), [1, 2])

    def test_many_rows_that_clash(self):
        self.assert_clash(2, ["WL"] * 49 + ["LW"])
        self.assert_clash(2, ["LW"] + ["WL"] * 49)
        self.assert_clash(6, ["WWWWWL"] * 49 + ["LLLLLW"])


class AgainstAllRankings(FloorsCase):
    def test_one_wish(self):
        for many in range(4):
            for rows in itertools.product(every_row(1), repeat=many):
                self.assert_told(1, list(rows))

    def test_two_wishes(self):
        for many in range(4):
            for rows in itertools.product(every_row(2), repeat=many):
                self.assert_told(2, list(rows))

    def test_three_wishes(self):
        for many in range(3):
            for rows in itertools.product(every_row(3), repeat=many):
                self.assert_told(3, list(rows))
        for rows in itertools.combinations(every_row(3), 3):
            self.assert_told(3, list(rows))

    def test_four_and_five_wishes(self):
        for count, seeds in ((4, 150), (5, 30)):
            for seed in range(seeds):
                self.assert_told(count, mixed_rows(count, 1 + seed % 9, seed))
                hidden = every_ranking(count)[seed * 11 % len(every_ranking(count))]
                self.assert_told(count, mixed_rows_that_fit(hidden, 2 + seed % 9, seed))

    def test_six_wishes_and_many_rows(self):
        for seed in range(6):
            self.assert_told(6, mixed_rows(6, 50, seed))
            hidden = every_ranking(6)[seed * 131]
            self.assert_told(6, mixed_rows_that_fit(hidden, 50, seed))
            self.assert_told(6, mixed_rows_that_fit(hidden, 4, seed))


class OwnLists(unittest.TestCase):
    def test_told_floors_changed_and_asked_again(self):
        rows = ["WLe", "eee"]
        told = floors(3, rows)
        told[1][0].append(9)
        told[1][1].clear()
        told[1].append([7])
        again = floors(3, rows)
        self.assertEqual(again, (True, [[0, 2], [1]]))
        floors(3, rows)[1][0].clear()
        floors(3, rows)[1].clear()
        self.assertEqual(again, (True, [[0, 2], [1]]))

    def test_told_floors_of_no_rows_changed_and_asked_again(self):
        told = floors(2, [])
        told[1][0].clear()
        told[1].clear()
        self.assertEqual(floors(2, []), (True, [[0, 1]]))

    def test_told_places_changed_and_asked_again(self):
        rows = ["WL", "LW"]
        told = floors(2, rows)
        told[1].reverse()
        told[1].append(5)
        again = floors(2, rows)
        self.assertEqual(again, (False, [0, 1]))
        floors(2, rows)[1].clear()
        self.assertEqual(again, (False, [0, 1]))

    def test_what_is_handed_in_is_not_changed(self):
        for rows in (["WLe", "eWL"], ["WLe", "eWL", "LeW"], ["eLe", "WLe"], []):
            kept = list(rows)
            floors(3, rows)
            self.assertEqual(rows, kept)

    def test_the_handed_in_list_changed_behind_the_call(self):
        rows = ["WLe", "eWL"]
        told = floors(3, rows)
        rows.append("LeW")
        rows[0] = "eee"
        self.assertEqual(told, (True, [[0], [1], [2]]))
        rows = ["WL", "LW"]
        told = floors(2, rows)
        rows.clear()
        self.assertEqual(told, (False, [0, 1]))

    def test_the_same_asked_again(self):
        for seed in range(20):
            rows = mixed_rows(5, 5, seed)
            self.assertEqual(floors(5, rows), floors(5, list(rows)))

    def test_seven_wishes_and_more_than_fifty_rows_are_not_refused(self):
        self.assertEqual(floors(7, ["WeeeeeL"] * 52), (True, [[0, 1, 2, 3, 4, 5], [6]]))
        self.assertIs(floors(7, ["WeeeeeL", "LeeeeeW"] * 26)[0], False)


if __name__ == "__main__":
    unittest.main()
