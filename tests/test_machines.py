"""Points 2 to 4, 8 and 21 to 23: machines, and the best of their walks."""

import copy
import itertools
import unittest

from plain import (
    BAD_COUNTS, BAD_RANKINGS, FORTY, UNLIKE_COUNTS, assert_tuple_of_numbers, every_ranking, mixed_numbers, plain_key,
)
from tonguerank.errors import NoCount, NoMachine, NoMarks, NoRanking, NoRoom, RankError
from tonguerank.machines import best_walk, machine_of

FAR = 10 ** 39 - 1
NO_ROOMS = (-1, -2, 2, 3, FORTY, -FORTY, 10 ** 5000)
BAD_MARKS = ([], [1], [1, 2, 3], [-1, 0], [0, -1], (), (1,), (0, 0, 0), (5, -FORTY))
TIE = (0, 1, "a", (1, 0))


def sum_of(count, marks):
    return tuple(sum(one[wish] for one in marks) for wish in range(count))


def rows_of_ties(machine, longest):
    """All rows of ties from room 0 up to a length, each with the room it leads to."""
    told = [(0, [])]
    last = told
    for length in range(longest):
        last = [
            (tie[1], walk + [number])
            for room, walk in last for number, tie in enumerate(machine[1]) if tie[0] == room
        ]
        told = told + last
    return told


def rooms_come_to(machine):
    rooms = {0}
    for turn in machine[0]:
        rooms |= {tie[1] for tie in machine[1] if tie[0] in rooms}
    return rooms


def some_machine(seed, rooms, ties, count, below):
    """Some machine, made as machine_of makes them; its ends lie far from room 0, most often."""
    numbers = mixed_numbers(ties * (3 + count), 1000, seed)
    ends = [(seed + room) % 7 == 0 or room == rooms - 1 for room in range(rooms)]
    rows = []
    for place in range(0, len(numbers), 3 + count):
        some = numbers[place:place + 3 + count]
        marks = [number % below for number in some[3:]]
        rows.append((some[0] % rooms, some[1] % rooms, "abcd"[:some[2] % 5], marks))
    return machine_of(count, ends, rows)


class MachineCase(unittest.TestCase):
    def assert_refused(self, refusal, count, ends, rows):
        with self.assertRaises(RankError) as taken:
            machine_of(count, ends, rows)
        self.assertIs(type(taken.exception), refusal, (len(ends), len(rows)))

    def assert_machine(self, told, wanted):
        self.assertEqual(told, wanted)
        self.assertIs(type(told), tuple)
        self.assertIs(type(told[0]), tuple)
        self.assertTrue(all(type(end) is bool for end in told[0]))
        self.assertIs(type(told[1]), tuple)
        for tie in told[1]:
            self.assertIs(type(tie), tuple)
            self.assertEqual([type(part) for part in tie], [int, int, str, tuple])
            assert_tuple_of_numbers(self, tie[3])


class Made(MachineCase):
    def test_one_room_and_no_ties(self):
        for end in (True, False):
            self.assert_machine(machine_of(1, [end], []), ((end,), ()))

    def test_marks_as_lists_and_tuples(self):
        rows = [(0, 1, "a", [1, 0]), (1, 0, "", (0, 2))]
        self.assert_machine(
            machine_of(2, [False, True], rows), ((False, True), ((0, 1, "a", (1, 0)), (1, 0, "", (0, 2))))
        )

    def test_rows_as_lists(self):
        self.assert_machine(machine_of(1, [True], [[0, 0, "b", [3]]]), ((True,), ((0, 0, "b", (3,)),)))

    def test_the_order_and_alike_rows_stay(self):
        rows = [(1, 1, "b", (0,)), (0, 1, "a", (2,)), (1, 1, "b", (0,))]
        self.assert_machine(machine_of(1, [True, False], rows), ((True, False), tuple(rows)))

    def test_each_count_from_one_to_six(self):
        for count in range(1, 7):
            marks = tuple(range(count))
            self.assert_machine(
                machine_of(count, [True], [(0, 0, "x", list(marks))]), ((True,), ((0, 0, "x", marks),))
            )

    def test_twelve_rooms(self):
        ends = [room % 2 == 0 for room in range(12)]
        rows = [(room, 11 - room, "", [room]) for room in range(12)]
        self.assert_machine(
            machine_of(1, ends, rows), (tuple(ends), tuple((room, 11 - room, "", (room,)) for room in range(12)))
        )

    def test_forty_eight_rows(self):
        self.assert_machine(machine_of(2, [True, False], [TIE] * 48), ((True, False), (TIE,) * 48))

    def test_texts_of_nought_to_four_signs(self):
        for text in ("", "a", "ab", "abc", "abcd", " ~ Z", "    "):
            self.assert_machine(machine_of(1, [True], [(0, 0, text, (1,))]), ((True,), ((0, 0, text, (1,)),)))

    def test_numbers_of_forty_figures(self):
        self.assert_machine(
            machine_of(2, [True], [(0, 0, "", [FORTY, 0])]), ((True,), ((0, 0, "", (FORTY, 0)),))
        )

    def test_what_was_told_handed_in_again(self):
        told = machine_of(2, [False, True], [TIE, (1, 1, "bc", [0, 7])])
        self.assert_machine(machine_of(2, list(told[0]), list(told[1])), told)

    def test_lists_changed_behind_the_call(self):
        ends = [True, False]
        marks = [1, 2]
        row = [0, 1, "a", marks]
        rows = [row, (1, 0, "b", marks)]
        kept = copy.deepcopy((ends, rows))
        told = machine_of(2, ends, rows)
        self.assertEqual((ends, rows), kept)
        marks[0] = 9
        marks.append(3)
        row[2] = "zzzzz"
        rows.append("more")
        ends.clear()
        self.assert_machine(told, ((True, False), ((0, 1, "a", (1, 2)), (1, 0, "b", (1, 2)))))

    def test_what_is_refused_is_not_changed(self):
        ends = [True, False]
        rows = [[0, 1, "a", [1]], [0, 5, "abcde", [1, 2]]]
        kept = copy.deepcopy((ends, rows))
        self.assert_refused(NoRoom, 2, ends, rows)
        self.assertEqual((ends, rows), kept)


class Refused(MachineCase):
    def test_counts_that_are_none(self):
        for count in BAD_COUNTS + (True, False):
            self.assert_refused(NoCount, count, [True], [])
            self.assert_refused(NoCount, count, [True], [(0, 0, "", [1])])

    def test_counts_just_beyond_with_marks_as_long(self):
        for count in (0, 7):
            self.assert_refused(NoCount, count, [True], [(0, 0, "", [1] * count)])

    def test_no_rooms_and_too_many(self):
        for many in (0, 13, 14, 50):
            self.assert_refused(NoMachine, 1, [True] * many, [])

    def test_numbers_that_are_no_rooms(self):
        for number in NO_ROOMS:
            self.assert_refused(NoRoom, 2, [True, False], [(number, 0, "a", [0, 0])])
            self.assert_refused(NoRoom, 2, [True, False], [(0, number, "a", [0, 0])])
            self.assert_refused(NoRoom, 2, [True, False], [(number, number, "a", [0, 0])])

    def test_the_number_of_rooms_is_no_room(self):
        for many in range(1, 13):
            ends = [True] * many
            self.assert_refused(NoRoom, 1, ends, [(many, 0, "", [0])])
            self.assert_refused(NoRoom, 1, ends, [(0, many, "", [0])])
            self.assertEqual(len(machine_of(1, ends, [(many - 1, many - 1, "", [0])])[1]), 1)

    def test_marks_that_are_none(self):
        for marks in BAD_MARKS:
            self.assert_refused(NoMarks, 2, [True, False], [(0, 1, "a", marks)])

    def test_more_than_forty_eight_rows(self):
        for many in (49, 50):
            self.assert_refused(NoMachine, 2, [True, False], [TIE] * many)

    def test_texts_longer_than_four_signs(self):
        for text in ("abcde", "     ", "x" * 200):
            self.assert_refused(NoMachine, 2, [True, False], [(0, 1, text, [0, 0])])

    def test_one_wrong_row_at_whatever_place(self):
        wrong = (
            (NoRoom, (0, 2, "a", [0, 0])), (NoRoom, (-1, 1, "a", [0, 0])), (NoMarks, (0, 1, "a", [0])),
            (NoMarks, (0, 1, "a", [0, -1])), (NoMachine, (0, 1, "abcde", [0, 0])),
        )
        for refusal, row in wrong:
            for place in (0, 1, 24, 47):
                rows = [TIE] * 48
                rows[place] = row
                self.assert_refused(refusal, 2, [True, False], rows)

    def test_truths_are_no_rooms_and_no_marks(self):
        self.assert_refused(NoRoom, 1, [True, True], [(True, 0, "", [0])])
        self.assert_refused(NoRoom, 1, [True, True], [(0, False, "", [0])])
        self.assert_refused(NoMarks, 1, [True, True], [(0, 0, "", [True])])


class OrderOfRefusals(MachineCase):
    """Each fault alone is refused above: here several are there at once, each at the first row or the last."""

    ROOM = (0, 2, "a", [0, 0])
    MARKS = (0, 1, "a", [0, -1])
    TEXT = (0, 1, "abcde", [0, 0])

    def test_no_count_goes_ahead_of_all(self):
        for ends in ([], [True, False], [True] * 13):
            for rows in ([], [self.ROOM], [self.MARKS], [self.TEXT], [TIE] * 49):
                for count in (0, 7, -FORTY):
                    self.assert_refused(NoCount, count, ends, rows)

    def test_the_ends_go_ahead_of_all_rows(self):
        for ends in ([], [True] * 13):
            for row in ((0, 13, "a", [0, 0]), (-1, 0, "a", [0, 0]), (0, 0, "a", [0]), self.TEXT):
                self.assert_refused(NoMachine, 2, ends, [row])
                self.assert_refused(NoMachine, 2, ends, [row] * 49)

    def test_no_room_goes_ahead_of_no_marks(self):
        self.assert_refused(NoRoom, 2, [True, False], [self.ROOM, self.MARKS])
        self.assert_refused(NoRoom, 2, [True, False], [self.MARKS, self.ROOM])
        self.assert_refused(NoRoom, 2, [True, False], [self.MARKS] * 47 + [self.ROOM])
        self.assert_refused(NoRoom, 2, [True, False], [(0, 2, "a", [0])])
        self.assert_refused(NoRoom, 2, [True, False], [(2, 0, "a", [0, -1])])

    def test_no_room_goes_ahead_of_no_machine(self):
        for others in ([self.TEXT], [TIE] * 48, [self.TEXT] * 49):
            self.assert_refused(NoRoom, 2, [True, False], [self.ROOM] + others)
            self.assert_refused(NoRoom, 2, [True, False], others + [self.ROOM])
        self.assert_refused(NoRoom, 2, [True, False], [(0, 2, "abcde", [0, 0])])

    def test_no_marks_goes_ahead_of_no_machine(self):
        for others in ([self.TEXT], [TIE] * 48, [self.TEXT] * 49):
            self.assert_refused(NoMarks, 2, [True, False], [self.MARKS] + others)
            self.assert_refused(NoMarks, 2, [True, False], others + [self.MARKS])
        self.assert_refused(NoMarks, 2, [True, False], [(0, 1, "abcde", [0])])

    def test_all_at_once(self):
        rows = [self.TEXT, self.MARKS, self.ROOM] * 17
        self.assert_refused(NoRoom, 2, [True, False], rows)
        self.assert_refused(NoMachine, 2, [True] * 13, rows)
        self.assert_refused(NoCount, 7, [True] * 13, rows)


class WalkCase(unittest.TestCase):
    def assert_costs(self, count, machine, ranking, costs):
        """No tie leads to a room with better marks, and some row of ties has just the told ones.

        So, tie by tie, no row of ties whatever is better.
        """
        self.assertIs(type(costs), list)
        self.assertEqual(len(costs), len(machine[0]))
        come_to = {room for room, marks in enumerate(costs) if marks is not None}
        self.assertEqual(come_to, rooms_come_to(machine))
        self.assertEqual(costs[0], (0,) * count)
        held = {0}
        for turn in machine[0]:
            for tie in machine[1]:
                if tie[0] in come_to:
                    marks = sum_of(count, [costs[tie[0]], tie[3]])
                    self.assertLessEqual(plain_key(ranking, costs[tie[1]]), plain_key(ranking, marks))
                    if marks == costs[tie[1]] and tie[0] in held:
                        held.add(tie[1])
        self.assertEqual(held, come_to, (machine, ranking, costs))

    def assert_is_walk(self, machine, walk):
        self.assertIs(type(walk), list)
        room = 0
        for number in walk:
            self.assertIs(type(number), int)
            self.assertTrue(0 <= number < len(machine[1]))
            self.assertEqual(machine[1][number][0], room, (machine, walk))
            room = machine[1][number][1]
        self.assertIs(machine[0][room], True, (machine, walk))

    def assert_told(self, count, machine, ranking):
        told = best_walk(count, machine, ranking)
        rooms = [room for room in rooms_come_to(machine) if machine[0][room]]
        if not rooms:
            self.assertIsNone(told)
            return told
        self.assertIs(type(told), tuple)
        self.assertEqual(len(told), 3)
        marks, walk, costs = told
        assert_tuple_of_numbers(self, marks)
        self.assert_is_walk(machine, walk)
        self.assertEqual(sum_of(count, [machine[1][number][3] for number in walk]), marks, (machine, ranking))
        self.assert_costs(count, machine, ranking, costs)
        self.assertEqual(plain_key(ranking, marks), min(plain_key(ranking, costs[room]) for room in rooms))
        return told

    def assert_by_all_walks(self, count, machine, ranking, longest):
        """Point 23 by its words, over all rows of ties up to a length.

        A row of ties that comes to a room twice is no better than one without the circle, so no
        longer ones than there are rooms are needed.
        """
        self.assertGreaterEqual(longest, len(machine[0]) - 1)
        told = self.assert_told(count, machine, ranking)
        every = [
            (room, sum_of(count, [machine[1][number][3] for number in walk]))
            for room, walk in rows_of_ties(machine, longest)
        ]
        ended = [plain_key(ranking, marks) for room, marks in every if machine[0][room]]
        self.assertEqual(told is None, ended == [])
        if told is not None:
            self.assertEqual(plain_key(ranking, told[0]), min(ended))
            for room in range(len(machine[0])):
                keys = [plain_key(ranking, marks) for other, marks in every if other == room]
                cost = told[2][room]
                self.assertEqual(None if cost is None else plain_key(ranking, cost), min(keys, default=None))

    def assert_no_ranking(self, count, machine, ranking):
        with self.assertRaises(RankError) as taken:
            best_walk(count, machine, ranking)
        self.assertIs(type(taken.exception), NoRanking, (machine, ranking))


class BestWalk(WalkCase):
    def test_one_room(self):
        for count in range(1, 7):
            machine = machine_of(count, [True], [])
            nought = (0,) * count
            self.assertEqual(self.assert_told(count, machine, tuple(range(count))), (nought, [], [nought]))
            self.assertIsNone(self.assert_told(count, machine_of(count, [False], []), tuple(range(count))))

    def test_one_tie(self):
        machine = machine_of(2, [False, True], [(0, 1, "a", [3, 4])])
        self.assertEqual(self.assert_told(2, machine, (1, 0)), ((3, 4), [0], [(0, 0), (3, 4)]))

    def test_the_ranking_chooses(self):
        machine = machine_of(2, [False, True], [(0, 1, "a", [3, 0]), (0, 1, "b", [0, 5])])
        self.assertEqual(self.assert_told(2, machine, (0, 1)), ((0, 5), [1], [(0, 0), (0, 5)]))
        self.assertEqual(self.assert_told(2, machine, (1, 0)), ((3, 0), [0], [(0, 0), (3, 0)]))

    def test_a_longer_walk_may_be_better(self):
        rows = [(0, 2, "", [2, 0]), (0, 1, "", [1, 9]), (1, 2, "", [0, 9]), (2, 3, "", [0, 0])]
        machine = machine_of(2, [False, False, False, True], rows)
        self.assertEqual(
            self.assert_told(2, machine, (0, 1)), ((1, 18), [1, 2, 3], [(0, 0), (1, 9), (1, 18), (1, 18)])
        )
        self.assertEqual(
            self.assert_told(2, machine, (1, 0)), ((2, 0), [0, 3], [(0, 0), (1, 9), (2, 0), (2, 0)])
        )

    def test_ties_in_an_order_that_needs_several_rounds(self):
        rows = [(room, room + 1, "", [1]) for room in reversed(range(11))]
        machine = machine_of(1, [False] * 11 + [True], rows)
        self.assertEqual(
            self.assert_told(1, machine, (0,)), ((11,), list(reversed(range(11))), [(room,) for room in range(12)])
        )

    def test_the_best_of_several_ends(self):
        rows = [(0, 1, "", [2]), (0, 2, "", [1]), (0, 3, "", [3])]
        self.assertEqual(self.assert_told(1, machine_of(1, [False, True, True, True], rows), (0,))[:2], ((1,), [1]))
        self.assertEqual(self.assert_told(1, machine_of(1, [False, True, False, True], rows), (0,))[:2], ((2,), [0]))

    def test_an_end_in_room_0(self):
        rows = [(0, 1, "", [0, 0]), (1, 0, "", [0, 1]), (0, 0, "", [1, 0])]
        for ends in ([True, False], [True, True]):
            told = self.assert_told(2, machine_of(2, ends, rows), (1, 0))
            self.assertEqual((told[0], told[2]), ((0, 0), [(0, 0), (0, 0)]))

    def test_rooms_that_cannot_be_come_to(self):
        rows = [(1, 0, "", [1]), (2, 1, "", [1]), (0, 3, "", [5]), (1, 3, "", [0])]
        machine = machine_of(1, [False, False, True, True], rows)
        self.assertEqual(self.assert_told(1, machine, (0,)), ((5,), [2], [(0,), None, None, (5,)]))

    def test_no_end_that_can_be_come_to(self):
        rows = [(0, 1, "", [1]), (1, 0, "", [0]), (2, 1, "", [1]), (2, 2, "", [0])]
        for ends in ([False, False, True], [False, False, False]):
            self.assertIsNone(self.assert_told(1, machine_of(1, ends, rows), (0,)))

    def test_circles(self):
        rows = [(0, 0, "", [1]), (0, 1, "", [2]), (1, 2, "", [1]), (2, 1, "", [1]), (2, 3, "", [4]), (3, 0, "", [0])]
        machine = machine_of(1, [False, False, False, True], rows)
        self.assertEqual(self.assert_told(1, machine, (0,)), ((7,), [1, 2, 4], [(0,), (2,), (3,), (7,)]))

    def test_circles_with_marks_of_nought_alone(self):
        rows = [(0, 0, "", [0]), (0, 1, "", [0]), (1, 0, "", [0]), (1, 2, "", [0]), (2, 1, "", [0]), (2, 2, "", [0])]
        for order in itertools.permutations(rows):
            told = self.assert_told(1, machine_of(1, [False, False, True], order), (0,))
            self.assertEqual((told[0], told[2]), ((0,), [(0,)] * 3))

    def test_several_walks_alike(self):
        rows = [(0, 1, "a", [1, 1]), (0, 1, "b", [1, 1]), (0, 2, "c", [1, 0]), (2, 1, "d", [0, 1])]
        for ranking in ((0, 1), (1, 0)):
            told = self.assert_told(2, machine_of(2, [False, True, False], rows), ranking)
            self.assertEqual(told[0], (1, 1))
            self.assertIn(told[1], ([0], [1], [2, 3]))

    def test_numbers_of_thirty_nine_figures(self):
        rows = [(0, 1, "", [FAR, 0]), (1, 2, "", [FAR, 0]), (0, 2, "", [FAR, FAR]), (2, 2, "", [FAR, FAR])]
        machine = machine_of(2, [False, False, True], rows)
        self.assertEqual(
            self.assert_told(2, machine, (0, 1)), ((FAR, FAR), [2], [(0, 0), (FAR, 0), (FAR, FAR)])
        )
        self.assertEqual(
            self.assert_told(2, machine, (1, 0)), ((2 * FAR, 0), [0, 1], [(0, 0), (FAR, 0), (2 * FAR, 0)])
        )

    def test_twelve_rooms_in_a_row_with_numbers_of_forty_figures(self):
        rows = [(room, room + 1, "", [FORTY]) for room in range(11)]
        told = self.assert_told(1, machine_of(1, [False] * 11 + [True], rows), (0,))
        self.assertEqual(told[0], (11 * FORTY,))

    def test_seven_wishes_and_more_rooms_and_ties_than_a_machine_has_are_not_refused(self):
        ties = tuple((room, room + 1, "abcde", (0, 0, 0, 0, 0, 0, 1)) for room in range(13)) * 4
        machine = ((False,) * 13 + (True,), ties)
        self.assertEqual(self.assert_told(7, machine, tuple(range(7)))[0], (0, 0, 0, 0, 0, 0, 13))


class AgainstAllWalks(WalkCase):
    def test_small_machines(self):
        for seed in range(150):
            rooms = 1 + seed % 4
            for ranking in every_ranking(2):
                self.assert_by_all_walks(2, some_machine(seed, rooms, seed % 10, 2, 3), ranking, rooms)

    def test_small_machines_with_marks_of_nought(self):
        for seed in range(60):
            for ranking in every_ranking(3)[::2]:
                self.assert_by_all_walks(3, some_machine(seed, 4, 4 + seed % 4, 3, 2), ranking, 4)

    def test_large_machines(self):
        for seed in range(40):
            for count, ranking in ((1, (0,)), (3, (2, 0, 1)), (6, (4, 1, 5, 0, 3, 2))):
                self.assert_told(count, some_machine(seed, 12, 12 + seed % 37, count, 4), ranking)

    def test_each_ranking_of_one_machine(self):
        machine = some_machine(7, 8, 30, 4, 5)
        for ranking in every_ranking(4):
            self.assert_told(4, machine, ranking)


class NoRankings(WalkCase):
    WITH = ((False, True), ((0, 1, "a", (1, 2, 3)),))
    WITHOUT = ((False, False), ((0, 1, "a", (1, 2, 3)),))
    EMPTY = ((True,), ())

    def test_what_is_no_ranking(self):
        for ranking in BAD_RANKINGS:
            for machine in (self.WITH, self.WITHOUT, self.EMPTY):
                self.assert_no_ranking(3, machine, ranking)

    def test_rankings_of_other_counts(self):
        for count, other in UNLIKE_COUNTS:
            for end in (True, False):
                machine = ((end,), ((0, 0, "", (1,) * count),))
                self.assert_no_ranking(count, machine, tuple(range(other)))

    def test_truths_are_no_wishes(self):
        self.assert_no_ranking(2, ((True,), ()), (False, True))

    def test_refused_twice_in_a_row(self):
        for turn in range(2):
            self.assert_no_ranking(3, self.WITHOUT, (0, 1))
        self.assertIsNone(best_walk(3, self.WITHOUT, (0, 1, 2)))


class OwnLists(WalkCase):
    def test_the_told_lists_changed_and_asked_again(self):
        machine = machine_of(1, [False, True], [(0, 1, "a", [3])])
        told = best_walk(1, machine, (0,))
        told[1].append(7)
        told[2].reverse()
        again = best_walk(1, machine, (0,))
        self.assertEqual(again, ((3,), [0], [(0,), (3,)]))
        best_walk(1, machine, (0,))[1].clear()
        best_walk(1, machine, (0,))[2].clear()
        self.assertEqual(again, ((3,), [0], [(0,), (3,)]))

    def test_the_empty_walk_changed_and_asked_again(self):
        machine = machine_of(1, [True], [(0, 0, "a", [3])])
        best_walk(1, machine, (0,))[1].append(0)
        self.assertEqual(best_walk(1, machine, (0,)), ((0,), [], [(0,)]))

    def test_what_is_handed_in_is_not_changed(self):
        machine = some_machine(3, 6, 20, 2, 4)
        kept = copy.deepcopy(machine)
        told = [best_walk(2, machine, ranking) for ranking in every_ranking(2)]
        self.assertEqual(machine, kept)
        self.assertEqual(told, [best_walk(2, kept, ranking) for ranking in every_ranking(2)])


if __name__ == "__main__":
    unittest.main()
