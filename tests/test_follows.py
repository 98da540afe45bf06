"""Points 2 to 4, 14 and 15: what follows from rows, and rows thinned."""

import itertools
import unittest

from plain import (
    assert_pair, assert_rising_places, every_ranking, every_row, mixed_rows, mixed_rows_that_fit, no_better,
    plainly_clash, plainly_follows, plainly_fused, ranking_fits,
)
from tonguerank.follows import follows, thinned
from tonguerank.rows import fused


class FollowsCase(unittest.TestCase):
    def assert_places_show(self, count, rows, row, places):
        assert_rising_places(self, places, rows)
        some = [rows[place] for place in places]
        shown = plainly_clash(count, some) or no_better(plainly_fused(count, some), row)
        self.assertTrue(shown, (rows, row, places))

    def assert_ranking_shows(self, count, rows, row, ranking):
        self.assertIs(type(ranking), tuple)
        self.assertTrue(all(type(wish) is int for wish in ranking))
        self.assertEqual(sorted(ranking), list(range(count)))
        self.assertTrue(all(ranking_fits(ranking, other) for other in rows), (rows, row, ranking))
        self.assertFalse(ranking_fits(ranking, row), (rows, row, ranking))

    def assert_told(self, count, rows, row):
        told = follows(count, rows, row)
        assert_pair(self, told)
        self.assertIs(told[0], plainly_follows(count, rows, row), (rows, row))
        if told[0]:
            self.assert_places_show(count, rows, row, told[1])
        else:
            self.assert_ranking_shows(count, rows, row, told[1])
        return told

    def assert_follows(self, count, rows, row):
        told = self.assert_told(count, rows, row)
        self.assertIs(told[0], True, (rows, row))
        return told[1]

    def assert_does_not_follow(self, count, rows, row):
        told = self.assert_told(count, rows, row)
        self.assertIs(told[0], False, (rows, row))
        return told[1]


class Follows(FollowsCase):
    def test_a_row_of_the_rows(self):
        rows = ["WLee", "eWLe", "eeWL"]
        for row in rows:
            self.assert_follows(4, rows, row)
        for row in every_row(3):
            self.assert_follows(3, [row], row)

    def test_their_fused_row(self):
        rows = ["WLee", "eWLe", "eeWL"]
        for many in range(4):
            for some in itertools.combinations(rows, many):
                self.assert_follows(4, rows, fused(4, list(some)))

    def test_what_only_two_rows_together_show(self):
        self.assertEqual(self.assert_follows(3, ["WLe", "eWL"], "WLL"), [0, 1])
        self.assertEqual(self.assert_follows(3, ["WLe", "eWL"], "WeL"), [0, 1])
        self.assert_does_not_follow(3, ["WLe"], "WeL")
        self.assert_does_not_follow(3, ["eWL"], "WeL")

    def test_a_worse_row_shows_a_better_one(self):
        self.assert_follows(3, ["WLL"], "WLe")
        self.assert_follows(3, ["WLL"], "WWL")
        self.assert_follows(3, ["WeL"], "WWL")
        self.assert_does_not_follow(3, ["WLe"], "WLL")
        self.assert_does_not_follow(3, ["WWL"], "WeL")
        self.assert_does_not_follow(3, ["WWL"], "WLL")

    def test_a_row_without_losses(self):
        for rows in ([], ["WLe"], ["WLe", "eWL"], ["eee"], ["WLe", "LWe"], ["eLe"]):
            for row in ("eee", "WWW", "eWe"):
                with self.subTest(rows=rows, row=row):
                    self.assert_follows(3, rows, row)

    def test_a_row_of_losses_and_no_win(self):
        for row in ("LLL", "eLe", "Lee", "eeL"):
            for rows in ([], ["eee"], ["WLe"], ["WLe", "eWL"]):
                with self.subTest(rows=rows, row=row):
                    self.assert_does_not_follow(3, rows, row)

    def test_no_rows(self):
        for row in every_row(3):
            told = self.assert_told(3, [], row)
            self.assertIs(told[0], "L" not in row)
            if told[0]:
                self.assertEqual(told[1], [])

    def test_from_rows_that_clash_everything_follows(self):
        for rows in (["WLe", "LWe"], ["eLe"], ["WLe", "eWL", "LeW"], ["eee", "WLe", "LLL"]):
            for row in every_row(3):
                self.assert_follows(3, rows, row)

    def test_the_other_way_about(self):
        self.assertEqual(self.assert_does_not_follow(2, ["WL"], "LW"), (0, 1))
        self.assertEqual(self.assert_does_not_follow(2, ["LW"], "WL"), (1, 0))
        self.assertEqual(self.assert_does_not_follow(3, ["LWe", "eLW"], "WeL"), (2, 1, 0))

    def test_one_wish(self):
        self.assert_follows(1, ["W"], "e")
        self.assert_follows(1, ["L"], "L")
        self.assertEqual(self.assert_does_not_follow(1, ["W", "e"], "L"), (0,))

    def test_six_wishes_and_fifty_rows(self):
        chain = ["WLeeee", "eWLeee", "eeWLee", "eeeWLe", "eeeeWL"]
        self.assertEqual(self.assert_follows(6, chain, "WeeeeL"), [0, 1, 2, 3, 4])
        self.assert_follows(6, chain * 10, "WeeeeL")
        self.assert_does_not_follow(6, chain * 10, "LeeeeW")
        self.assert_does_not_follow(6, (chain[:2] + chain[3:]) * 12, "WeeeeL")


class FollowsAgainstAllRankings(FollowsCase):
    def test_one_and_two_wishes(self):
        for count in (1, 2):
            for many in range(4):
                for rows in itertools.product(every_row(count), repeat=many):
                    for row in every_row(count):
                        self.assert_told(count, list(rows), row)

    def test_three_wishes(self):
        for many in range(3):
            for rows in itertools.combinations_with_replacement(every_row(3), many):
                for row in every_row(3):
                    self.assert_told(3, list(rows), row)

    def test_four_wishes(self):
        for seed in range(40):
            hidden = every_ranking(4)[seed * 11 % 24]
            for rows in (mixed_rows(4, 1 + seed % 6, seed), mixed_rows_that_fit(hidden, 1 + seed % 8, seed)):
                for row in mixed_rows(4, 12, seed + 1000):
                    self.assert_told(4, rows, row)

    def test_six_wishes_and_many_rows(self):
        for seed in range(4):
            hidden = every_ranking(6)[seed * 131]
            for many in (3, 50):
                rows = mixed_rows_that_fit(hidden, many, seed)
                for row in mixed_rows(6, 6, seed + 50) + rows[:1] + [fused(6, rows)]:
                    self.assert_told(6, rows, row)


class Thinned(FollowsCase):
    def assert_thinned(self, count, rows):
        places = thinned(count, rows)
        assert_rising_places(self, places, rows)
        kept = [rows[place] for place in places]
        for row in rows:
            self.assertTrue(plainly_follows(count, kept, row), (rows, places, row))
        for number, row in enumerate(kept):
            self.assertFalse(plainly_follows(count, kept[:number] + kept[number + 1:], row), (rows, places, row))
        return places

    def test_no_rows(self):
        for count in range(1, 7):
            self.assertEqual(self.assert_thinned(count, []), [])

    def test_one_row(self):
        for row in every_row(3):
            self.assertEqual(self.assert_thinned(3, [row]), [0] if "L" in row else [])

    def test_alike_rows(self):
        for many in (2, 3, 50):
            self.assertEqual(len(self.assert_thinned(2, ["WL"] * many)), 1)
        places = self.assert_thinned(3, ["WLe", "eWL", "WLe", "eWL", "WLe"])
        self.assertEqual(sorted(place % 2 for place in places), [0, 1])

    def test_rows_of_e_alone(self):
        self.assertEqual(self.assert_thinned(3, ["eee"]), [])
        self.assertEqual(self.assert_thinned(3, ["eee"] * 50), [])
        self.assertEqual(self.assert_thinned(3, ["eee", "WLe", "eee", "WWW"]), [1])

    def test_rows_that_clash(self):
        self.assertEqual(self.assert_thinned(2, ["WL", "LW"]), [0, 1])
        self.assertEqual(self.assert_thinned(1, ["L", "W", "e"]), [0])
        self.assertEqual(self.assert_thinned(3, ["WLe", "eWL", "LeW"]), [0, 1, 2])
        self.assertEqual(len(self.assert_thinned(3, ["eLe", "Lee", "LLL"])), 1)
        self.assert_thinned(3, ["WLe", "LWe", "eLe", "eWL", "eLW"])

    def test_rows_that_follow_from_two_others_together(self):
        self.assertEqual(self.assert_thinned(3, ["WLe", "eWL", "WeL"]), [0, 1])
        self.assertEqual(self.assert_thinned(3, ["WeL", "WLe", "eWL"]), [1, 2])
        self.assertEqual(self.assert_thinned(3, ["WLe", "WeL", "eWL"]), [0, 2])

    def test_one_row_alone_shows_two_others(self):
        self.assertIn(self.assert_thinned(3, ["WLe", "WLL", "WeL"]), ([1], [0, 2]))

    def test_rows_none_of_which_follows(self):
        self.assertEqual(self.assert_thinned(4, ["WLee", "eWLe", "eeWL"]), [0, 1, 2])
        self.assertEqual(self.assert_thinned(4, ["eeWL", "WLee", "eWLe"]), [0, 1, 2])

    def test_one_and_two_wishes_against_all_rankings(self):
        for count in (1, 2):
            for many in range(5 - count):
                for rows in itertools.product(every_row(count), repeat=many):
                    self.assert_thinned(count, list(rows))

    def test_three_wishes_against_all_rankings(self):
        for many in (2, 3):
            for rows in itertools.combinations(every_row(3), many):
                self.assert_thinned(3, list(rows))
                self.assert_thinned(3, list(reversed(rows)))

    def test_many_rows_against_all_rankings(self):
        for count, seeds in ((4, 40), (5, 6)):
            for seed in range(seeds):
                self.assert_thinned(count, mixed_rows(count, 1 + seed % 7, seed))
                hidden = every_ranking(count)[seed * 11 % len(every_ranking(count))]
                self.assert_thinned(count, mixed_rows_that_fit(hidden, 3 + seed % 15, seed))

    def test_six_wishes_and_fifty_rows(self):
        hidden = (3, 1, 5, 0, 4, 2)
        self.assert_thinned(6, mixed_rows_that_fit(hidden, 50, 3))
        self.assert_thinned(6, mixed_rows(6, 50, 3))


class OwnLists(unittest.TestCase):
    def test_told_places_of_what_follows_changed_and_asked_again(self):
        asked = ((["WLe", "eWL"], "WeL", [0, 1]), (["WLe"], "eee", []), (["WLe", "LWe"], "eLe", [0, 1]))
        for rows, row, wanted in asked:
            with self.subTest(rows=rows, row=row):
                told = follows(3, rows, row)
                told[1].append(9)
                again = follows(3, rows, row)
                self.assertEqual(again, (True, wanted))
                follows(3, rows, row)[1].append(5)
                self.assertEqual(again, (True, wanted))

    def test_thinned_places_changed_and_asked_again(self):
        rows = ["WLe", "eWL", "WeL"]
        told = thinned(3, rows)
        told.clear()
        again = thinned(3, rows)
        self.assertEqual(again, [0, 1])
        thinned(3, rows).append(7)
        self.assertEqual(again, [0, 1])
        thinned(3, []).append(7)
        self.assertEqual(thinned(3, []), [])

    def test_what_is_handed_in_is_not_changed(self):
        for rows in (["WLe", "eWL", "WeL"], ["WLe", "LWe"], ["eee", "eee"], []):
            for row in ("WeL", "eee", "LLL", "LeW"):
                kept = list(rows)
                follows(3, rows, row)
                thinned(3, rows)
                self.assertEqual(rows, kept)

    def test_the_handed_in_list_changed_behind_the_call(self):
        rows = ["WLe", "eWL"]
        told = follows(3, rows, "WeL")
        places = thinned(3, rows)
        rows.clear()
        self.assertEqual(told, (True, [0, 1]))
        self.assertEqual(places, [0, 1])

    def test_the_same_asked_again(self):
        for seed in range(20):
            rows = mixed_rows(5, 5, seed)
            for row in mixed_rows(5, 3, seed + 100):
                self.assertEqual(follows(5, rows, row), follows(5, list(rows), row))
            self.assertEqual(thinned(5, rows), thinned(5, list(rows)))

    def test_seven_wishes_and_more_than_fifty_rows_are_not_refused(self):
        rows = ["WLeeeee", "eWLeeee"] * 26
        told = follows(7, rows, "WeLeeee")
        self.assertIs(told[0], True)
        self.assertEqual(plainly_fused(7, [rows[place] for place in told[1]]), "WLLeeee")
        self.assertIs(follows(7, rows, "LeWeeee")[0], False)
        self.assertEqual(sorted(place % 2 for place in thinned(7, rows)), [0, 1])


if __name__ == "__main__":
    unittest.main()
