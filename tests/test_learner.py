"""Points 2 to 4, 17 and 18: the learner's moves, and the standing they come to."""

import itertools
import unittest

from plain import (
    assert_clashing_places, assert_tuple_of_numbers, every_ranking, every_row, fits_by_numbers, floor_numbers,
    mixed_numbers, mixed_rows, mixed_rows_that_fit, rankings_that_fit, wishes_with,
)
from tonguerank.errors import Clash, NoMove, RankError
from tonguerank.floors import floors
from tonguerank.learner import learned, moved

FAR = 10 ** 39 - 1


def only_losses(row):
    return "L" in row and "W" not in row


def plainly_moved(standing, row):
    """Point 17 by its words."""
    if fits_by_numbers(standing, row):
        return standing
    least = min(standing[wish] for wish in wishes_with(row, "W"))
    numbers = list(standing)
    for wish in wishes_with(row, "L"):
        if not standing[wish] > least:
            numbers[wish] = least + 1
    return tuple(numbers)


def plainly_learned(count, rows):
    """Point 18 by its words: each row in order, again and again, until the standing fits all."""
    standing = (0,) * count
    moves = 0
    while not all(fits_by_numbers(standing, row) for row in rows):
        for row in rows:
            if not fits_by_numbers(standing, row):
                standing = plainly_moved(standing, row)
                moves += 1
    return (standing, moves)


class Moved(unittest.TestCase):
    def assert_moved(self, standing, row, wanted):
        told = moved(standing, row)
        assert_tuple_of_numbers(self, told)
        self.assertEqual(told, wanted, (standing, row))

    def assert_no_move(self, standing, row):
        with self.assertRaises(RankError) as taken:
            moved(standing, row)
        self.assertIs(type(taken.exception), NoMove, (standing, row))

    def test_one_win_and_one_loss(self):
        self.assert_moved((0, 0), "WL", (0, 1))
        self.assert_moved((0, 0), "LW", (1, 0))
        self.assert_moved((3, 0), "WL", (3, 4))
        self.assert_moved((3, 3), "WL", (3, 4))

    def test_a_standing_that_fits(self):
        self.assert_moved((0, 1), "WL", (0, 1))
        self.assert_moved((0, 9, 4), "WLL", (0, 9, 4))
        self.assert_moved((5, 0, 1), "WWL", (5, 0, 1))

    def test_rows_of_e_alone_and_of_wins_and_no_loss(self):
        for row in ("eee", "WWW", "Wee", "eWe", "WeW"):
            for standing in ((0, 0, 0), (3, 1, 2), (FAR, 0, FAR - 1)):
                self.assert_moved(standing, row, standing)

    def test_the_least_number_of_several_wins(self):
        self.assert_moved((4, 2, 0), "WWL", (4, 2, 3))
        self.assert_moved((2, 4, 2), "WWL", (2, 4, 3))
        self.assert_moved((2, 2, 2), "WWL", (2, 2, 3))

    def test_losses_above_the_least_number_stay(self):
        self.assert_moved((1, 0, 1, 2, 7), "WLLLL", (1, 2, 2, 2, 7))
        self.assert_moved((3, 1, 0, 1, 2, 9), "WWLLLL", (3, 1, 2, 2, 2, 9))

    def test_the_others_stay(self):
        self.assert_moved((0, 0, 0, 0), "WeLe", (0, 0, 1, 0))
        self.assert_moved((2, 0, 0, 5), "WeLe", (2, 0, 3, 5))

    def test_one_and_six_wishes(self):
        self.assert_moved((0,), "W", (0,))
        self.assert_moved((7,), "e", (7,))
        self.assert_no_move((0,), "L")
        self.assert_moved((0, 0, 0, 0, 0, 0), "LLLLLW", (1, 1, 1, 1, 1, 0))
        self.assert_moved((5, 4, 3, 2, 1, 0), "WLWLWL", (5, 4, 3, 2, 1, 2))

    def test_numbers_of_thirty_nine_figures(self):
        self.assertEqual(len(str(FAR)), 39)
        self.assert_moved((FAR, FAR, 0), "WLL", (FAR, FAR + 1, FAR + 1))
        self.assert_moved((FAR, FAR - 1, FAR - 2), "WWL", (FAR, FAR - 1, FAR))
        self.assert_moved((FAR - 1, FAR, 0), "WLe", (FAR - 1, FAR, 0))

    def test_what_was_told_handed_in_again(self):
        standing = moved((FAR, FAR), "WL")
        self.assert_moved(standing, "WL", (FAR, FAR + 1))
        self.assert_moved(standing, "LW", (FAR + 2, FAR + 1))

    def test_a_row_with_some_loss_and_no_win(self):
        for row in [row for row in every_row(3) if only_losses(row)]:
            for standing in itertools.product((0, 1, 4, FAR), repeat=3):
                self.assert_no_move(standing, row)

    def test_no_move_twice_in_a_row(self):
        for turn in range(2):
            self.assert_no_move((0, 1), "eL")
        self.assert_moved((0, 1), "LW", (2, 1))
        self.assert_no_move((0, 1), "eL")

    def test_all_rows_of_small_counts_against_a_plain_reading(self):
        for count, most in ((1, 3), (2, 4), (3, 4), (4, 2)):
            for standing in itertools.product(range(most), repeat=count):
                for row in every_row(count):
                    if only_losses(row):
                        self.assert_no_move(standing, row)
                    else:
                        self.assert_moved(standing, row, plainly_moved(standing, row))
                        self.assertTrue(fits_by_numbers(moved(standing, row), row))

    def test_six_wishes_against_a_plain_reading(self):
        for number, row in enumerate(mixed_rows(6, 300, 5)):
            standing = tuple(number * step % 7 for step in (1, 2, 3, 5, 8, 13))
            if not only_losses(row):
                self.assert_moved(standing, row, plainly_moved(standing, row))

    def test_seven_wishes_are_not_refused(self):
        self.assert_moved((0,) * 7, "WeeeeeL", (0, 0, 0, 0, 0, 0, 1))


class LearnedCase(unittest.TestCase):
    def assert_learned(self, count, rows):
        told = learned(count, rows)
        self.assertIs(type(told), tuple)
        self.assertEqual(len(told), 2)
        assert_tuple_of_numbers(self, told[0])
        self.assertIs(type(told[1]), int)
        self.assertEqual(told, plainly_learned(count, rows), rows)
        self.assertEqual(dict(enumerate(told[0])), floor_numbers(floors(count, rows)[1]), rows)
        self.assertLessEqual(told[1], sum(told[0]), rows)
        return told

    def assert_clash(self, count, rows):
        with self.assertRaises(RankError) as taken:
            learned(count, rows)
        self.assertIs(type(taken.exception), Clash, rows)
        assert_clashing_places(self, count, rows, taken.exception.places)
        return taken.exception.places

    def assert_either(self, count, rows):
        if rankings_that_fit(count, rows):
            self.assert_learned(count, rows)
        else:
            self.assert_clash(count, rows)


class Learned(LearnedCase):
    def test_no_rows(self):
        for count in range(1, 7):
            self.assertEqual(self.assert_learned(count, []), ((0,) * count, 0))

    def test_rows_that_fit_from_the_first(self):
        for rows in (["eee"], ["WWW", "eWe"], ["eee"] * 50):
            self.assertEqual(self.assert_learned(3, rows), ((0, 0, 0), 0))

    def test_one_row(self):
        self.assertEqual(self.assert_learned(2, ["WL"]), ((0, 1), 1))
        self.assertEqual(self.assert_learned(3, ["LeW"]), ((1, 0, 0), 1))
        self.assertEqual(self.assert_learned(4, ["LLWL"]), ((1, 1, 0, 1), 1))

    def test_one_row_twice(self):
        for many in (2, 50):
            self.assertEqual(self.assert_learned(4, ["LLWL"] * many), ((1, 1, 0, 1), 1))

    def test_the_order_tells_how_often_they_move(self):
        self.assertEqual(self.assert_learned(3, ["WLe", "eWL"]), ((0, 1, 2), 2))
        self.assertEqual(self.assert_learned(3, ["eWL", "WLe"]), ((0, 1, 2), 3))

    def test_again_and_again(self):
        chain = ["WLeeee", "eWLeee", "eeWLee", "eeeWLe", "eeeeWL"]
        self.assertEqual(self.assert_learned(6, chain), ((0, 1, 2, 3, 4, 5), 5))
        self.assertEqual(self.assert_learned(6, chain[::-1]), ((0, 1, 2, 3, 4, 5), 15))

    def test_the_rows_in_another_order(self):
        for seed in range(6):
            rows = mixed_rows_that_fit((2, 0, 3, 1), 4, seed)
            standings = {self.assert_learned(4, list(mixed))[0] for mixed in itertools.permutations(rows)}
            self.assertEqual(len(standings), 1)

    def test_seven_wishes_and_more_than_fifty_rows_are_not_refused(self):
        self.assertEqual(learned(7, ["WeeeeeL"] * 53), ((0, 0, 0, 0, 0, 0, 1), 1))

    def test_what_is_handed_in_is_not_changed(self):
        rows = ["eWL", "WLe"]
        for turn in range(3):
            self.assertEqual(learned(3, rows), ((0, 1, 2), 3))
        self.assertEqual(rows, ["eWL", "WLe"])
        told = learned(3, rows)
        rows.append("LeW")
        self.assertEqual(told, ((0, 1, 2), 3))
        with self.assertRaises(Clash):
            learned(3, rows)
        self.assertEqual(rows, ["eWL", "WLe", "LeW"])


class Clashing(LearnedCase):
    def test_one_row_alone(self):
        for row in [row for row in every_row(3) if only_losses(row)]:
            self.assertEqual(self.assert_clash(3, [row]), [0])
        self.assertIn(2, self.assert_clash(1, ["W", "e", "L"]))
        self.assert_clash(2, ["WL", "eL"])

    def test_several_that_only_together_clash(self):
        self.assertEqual(self.assert_clash(2, ["WL", "LW"]), [0, 1])
        self.assertEqual(self.assert_clash(3, ["WLe", "eWL", "LeW"]), [0, 1, 2])
        self.assertEqual(self.assert_clash(4, ["WLee", "eWLe", "eeWL", "LeeW"]), [0, 1, 2, 3])
        places = self.assert_clash(3, ["eee", "WLe", "WeW", "LWe"])
        self.assertTrue({1, 3} <= set(places))

    def test_the_refusals_list_changed_and_asked_again(self):
        rows = ["WL", "LW"]
        taken = []
        for turn in range(3):
            with self.assertRaises(Clash) as context:
                learned(2, rows)
            taken.append(context.exception)
            self.assertEqual(context.exception.places, [0, 1])
            context.exception.places.append(turn)
        self.assertEqual([error.places for error in taken], [[0, 1, 0], [0, 1, 1], [0, 1, 2]])
        rows.clear()
        self.assertEqual(taken[0].places, [0, 1, 0])


class AgainstAPlainWalk(LearnedCase):
    def test_one_and_two_wishes(self):
        for count in (1, 2):
            for many in range(4):
                for rows in itertools.product(every_row(count), repeat=many):
                    self.assert_either(count, list(rows))

    def test_three_wishes(self):
        for rows in itertools.product(every_row(3), repeat=2):
            self.assert_either(3, list(rows))
        for rows in itertools.combinations(every_row(3), 3):
            self.assert_either(3, list(rows))
            self.assert_either(3, list(reversed(rows)))

    def test_four_to_six_wishes(self):
        for count, seeds in ((4, 60), (5, 30), (6, 8)):
            for seed in range(seeds):
                hidden = every_ranking(count)[seed * 11 % len(every_ranking(count))]
                self.assert_either(count, mixed_rows(count, 1 + seed % 6, seed))
                self.assert_learned(count, mixed_rows_that_fit(hidden, 2 + seed % 12, seed))

    def test_fifty_rows(self):
        for seed in range(6):
            hidden = every_ranking(6)[seed * 131]
            self.assert_learned(6, mixed_rows_that_fit(hidden, 50, seed))
            self.assert_clash(6, mixed_rows(6, 50, seed))

    def test_whatever_order_the_rows_are_met_in(self):
        for seed in range(30):
            rows = mixed_rows_that_fit((3, 1, 4, 0, 2), 6, seed)
            at_last = learned(5, rows)[0]
            standing = (0,) * 5
            changes = 0
            for place in mixed_numbers(400, len(rows), seed):
                behind = moved(standing, rows[place])
                changes += behind != standing
                standing = behind
                self.assertTrue(all(number <= last for number, last in zip(standing, at_last)))
            self.assertEqual(standing, at_last)
            self.assertLessEqual(changes, sum(at_last))


if __name__ == "__main__":
    unittest.main()
