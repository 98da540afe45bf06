"""Points 2 to 4, 8 and 24 to 27: mills and counters, both joined, and the best text."""

import copy
import itertools
import unittest

from plain import (
    BAD_RANKINGS, FORTY, UNLIKE_COUNTS, assert_tuple_of_numbers, every_ranking, mixed_numbers, plain_key,
)
from tonguerank.errors import NoLetter, NoRanking, RankError, TooMany
from tonguerank.machines import best_walk, machine_of
from tonguerank.mills import best_text, has, joined, marks_of

FAR = 10 ** 39 - 1
# All signs from the blank to ~ but the letters a and b.
NO_LETTERS = [chr(code) for code in range(ord(" "), ord("~") + 1) if chr(code) not in "ab"]
# It has the texts of a and b in which each b stands behind an a and the last letter is b.
MILL = ("ab", (False, False, True), ((1, None), (1, 2), (1, None)))
# How often a stands, and how often b stands straight behind a b (or the first one straight at the beginning).
COUNTERS = [
    ("ab", (((0, 1), (0, 0)),)),
    ("ab", (((1, 0), (0, 1)), ((1, 0), (0, 0)))),
]


def circle(letters, length):
    """A counter that goes round by each letter and counts one at each full turn."""
    return (
        letters,
        tuple(tuple(((room + 1) % length, int(room + 1 == length)) for letter in letters) for room in range(length)),
    )


def free_mill(letters):
    """It has all texts."""
    return (letters, (True,), ((0,) * len(letters),))


def texts_up_to(letters, longest):
    return ["".join(signs) for length in range(longest + 1) for signs in itertools.product(letters, repeat=length)]


def rooms_behind(mill, counters, text):
    """The rooms of mill and counters together, or None where the mill tells no room."""
    rooms = [0] * (1 + len(counters))
    for sign in text:
        place = mill[0].index(sign)
        rooms[0] = mill[2][rooms[0]][place]
        if rooms[0] is None:
            return None
        for number, counter in enumerate(counters):
            rooms[number + 1] = counter[1][rooms[number + 1]][place][0]
    return tuple(rooms)


def plainly_has(mill, text):
    rooms = rooms_behind(mill, [], text)
    return rooms is not None and mill[1][rooms[0]]


def plain_marks(counters, text):
    told = []
    for letters, rows in counters:
        room, total = 0, 0
        for sign in text:
            room, many = rows[room][letters.index(sign)]
            total += many
        told.append(total)
    return tuple(told)


def plain_texts(mill, counters, most):
    """For each of the rooms together, in point 26's order, the text by which it is first come to; at the most so many.

    Each told text is tried with each letter behind it, in order.
    """
    texts = [""]
    seen = [rooms_behind(mill, counters, "")]
    for text in texts:
        for letter in mill[0]:
            rooms = rooms_behind(mill, counters, text + letter)
            if rooms is not None and rooms not in seen and len(texts) < most:
                texts.append(text + letter)
                seen.append(rooms)
    return texts


def plain_machine(mill, counters):
    texts = plain_texts(mill, counters, 12)
    order = [rooms_behind(mill, counters, text) for text in texts]
    ties = []
    for number, text in enumerate(texts):
        for letter in mill[0]:
            rooms = rooms_behind(mill, counters, text + letter)
            if rooms is not None:
                ahead, behind = plain_marks(counters, text), plain_marks(counters, text + letter)
                marks = tuple(more - less for more, less in zip(behind, ahead))
                ties.append((number, order.index(rooms), letter, marks))
    return (tuple(mill[1][rooms[0]] for rooms in order), tuple(ties))


def some_mill(seed, letters, rooms):
    numbers = mixed_numbers(rooms * (1 + len(letters)), 1000, seed)
    rows = []
    for room in range(rooms):
        some = numbers[room * len(letters):(room + 1) * len(letters)]
        rows.append(tuple(None if number % 4 == 3 else number // 4 % rooms for number in some))
    return (letters, tuple(number % 3 == 0 for number in numbers[-rooms:]), tuple(rows))


def some_counter(seed, letters, rooms):
    numbers = mixed_numbers(2 * rooms * len(letters), 1000, seed)
    steps = [(numbers[2 * place] % rooms, numbers[2 * place + 1] % 3) for place in range(rooms * len(letters))]
    return (letters, tuple(tuple(steps[room * len(letters):(room + 1) * len(letters)]) for room in range(rooms)))


def some_mill_and_counters(seed):
    letters = "abcd"[:1 + seed % 4]
    counters = [some_counter(seed + 50 * place, letters, 1 + (seed + place) % 3) for place in range(1 + seed % 3)]
    return (some_mill(seed + 7, letters, 1 + seed % 6), counters)


class Marks(unittest.TestCase):
    def assert_marks(self, counters, text, wanted):
        told = marks_of(counters, text)
        assert_tuple_of_numbers(self, told)
        self.assertEqual(told, wanted)

    def assert_no_letter(self, counters, text):
        with self.assertRaises(RankError) as taken:
            marks_of(counters, text)
        self.assertIs(type(taken.exception), NoLetter, text)

    def test_the_empty_text(self):
        self.assert_marks(COUNTERS, "", (0, 0))
        for many in range(1, 7):
            self.assert_marks([circle("a", 2)] * many, "", (0,) * many)

    def test_some_texts(self):
        self.assert_marks(COUNTERS, "a", (1, 0))
        self.assert_marks(COUNTERS, "b", (0, 1))
        self.assert_marks(COUNTERS, "ab", (1, 0))
        self.assert_marks(COUNTERS, "abba", (2, 1))
        self.assert_marks(COUNTERS, "bbabb", (1, 3))

    def test_the_order_is_that_of_the_counters(self):
        self.assert_marks(COUNTERS[::-1], "abba", (1, 2))
        self.assert_marks([circle("a", length) for length in (3, 1, 4, 2)], "a" * 12, (4, 12, 3, 6))

    def test_letters_in_another_order(self):
        counter = ("ba", (((0, 5), (0, 2)),))
        self.assert_marks([counter], "aab", (9,))

    def test_six_counters_of_four_rooms(self):
        self.assert_marks([circle("abcd", 4)] * 6, "abcdabc", (1,) * 6)

    def test_long_texts(self):
        self.assert_marks(COUNTERS, "a" * 200, (200, 0))
        self.assert_marks(COUNTERS, "b" * 200, (0, 200))
        self.assert_marks(COUNTERS, "ab" * 100, (100, 0))

    def test_numbers_of_forty_figures(self):
        counter = ("ab", (((0, FORTY), (0, FAR)),))
        self.assert_marks([counter], "a" * 200, (200 * FORTY,))
        self.assert_marks([counter, COUNTERS[0]], "ba", (FORTY + FAR, 1))

    def test_against_a_plain_reading(self):
        for seed in range(24):
            counters = some_mill_and_counters(seed)[1]
            for text in texts_up_to(counters[0][0], 4):
                self.assert_marks(counters, text, plain_marks(counters, text))

    def test_signs_that_are_no_letters(self):
        for sign in NO_LETTERS:
            for text in (sign, sign + "ab", "ab" + sign, "a" + sign + "b", "a" * 199 + sign, sign + "a" * 199):
                self.assert_no_letter(COUNTERS, text)

    def test_a_letter_of_other_counters(self):
        self.assert_no_letter([circle("a", 1)], "ab")
        self.assert_no_letter([circle("b", 1)] * 6, "a")

    def test_refused_twice_in_a_row(self):
        for turn in range(2):
            self.assert_no_letter(COUNTERS, "abc")
        self.assert_marks(COUNTERS, "ab", (1, 0))

    def test_what_is_handed_in_is_not_changed(self):
        counters = list(COUNTERS)
        told = marks_of(counters, "abba")
        self.assertEqual(counters, COUNTERS)
        counters.reverse()
        self.assertEqual(told, (2, 1))

    def test_more_than_six_counters_are_not_refused(self):
        self.assert_marks([circle("a", 1)] * 7, "aa", (2,) * 7)


class Has(unittest.TestCase):
    def assert_no_letter(self, mill, text):
        with self.assertRaises(RankError) as taken:
            has(mill, text)
        self.assertIs(type(taken.exception), NoLetter, text)

    def test_some_texts(self):
        for text in ("ab", "aab", "abab", "aaabaab"):
            self.assertIs(has(MILL, text), True, text)
        for text in ("", "a", "aa", "aba", "b", "abb", "bab", "ba"):
            self.assertIs(has(MILL, text), False, text)

    def test_the_empty_text(self):
        self.assertIs(has(("a", (True,), ((None,),)), ""), True)
        self.assertIs(has(("a", (False,), ((0,),)), ""), False)
        self.assertIs(has(("a", (False, True), ((1,), (1,))), ""), False)

    def test_letters_to_which_no_room_is_told(self):
        mill = ("ab", (True, True), ((1, None), (None, 0)))
        for text in ("a", "ab", "aba", "abab"):
            self.assertIs(has(mill, text), True)
        for text in ("b", "aa", "aaa", "bab", "abb", "aab", "ababb"):
            self.assertIs(has(mill, text), False)

    def test_a_room_0_to_come_back_to(self):
        mill = ("ab", (True, False), ((1, 0), (0, None)))
        for text in ("aa", "b", "aab", "baabaa"):
            self.assertIs(has(mill, text), True)
        for text in ("a", "ab", "aba", "baa" + "a"):
            self.assertIs(has(mill, text), False)

    def test_long_texts(self):
        self.assertIs(has(MILL, "ab" * 100), True)
        self.assertIs(has(MILL, "ab" * 99 + "aa"), False)
        self.assertIs(has(MILL, "b" * 200), False)

    def test_against_a_plain_reading(self):
        for seed in range(40):
            mill = some_mill_and_counters(seed)[0]
            for text in texts_up_to(mill[0], 5):
                self.assertIs(has(mill, text), plainly_has(mill, text), (mill, text))

    def test_signs_that_are_no_letters(self):
        for sign in NO_LETTERS:
            for text in (sign, sign + "ab", "ab" + sign, "a" + sign + "b", "a" * 199 + sign):
                self.assert_no_letter(MILL, text)

    def test_behind_a_letter_to_which_no_room_is_told(self):
        for text in ("b ", "bc", "babc", "abbc", "abb~ab", "b" * 199 + "A"):
            self.assert_no_letter(MILL, text)

    def test_refused_twice_in_a_row(self):
        for turn in range(2):
            self.assert_no_letter(MILL, "abc")
        self.assertIs(has(MILL, "ab"), True)


class JoinedCase(unittest.TestCase):
    def assert_joined(self, mill, counters):
        told = joined(mill, counters)
        self.assertEqual(told, plain_machine(mill, counters), (mill, counters))
        self.assertEqual(machine_of(len(counters), list(told[0]), list(told[1])), told)
        self.assertIs(type(told[0]), tuple)
        self.assertTrue(all(type(end) is bool for end in told[0]))
        self.assertIs(type(told[1]), tuple)
        for tie in told[1]:
            self.assertEqual([type(part) for part in tie], [int, int, str, tuple])
        return told

    def assert_texts(self, mill, counters, machine, longest):
        """Point 26: for each text of the mill just one walk, with its marks, and no others."""
        walks = [(0, "", (0,) * len(counters))]
        for length in range(longest + 1):
            made = [(text, marks) for room, text, marks in walks if machine[0][room]]
            texts = ["".join(signs) for signs in itertools.product(mill[0], repeat=length)]
            wanted = [(text, marks_of(counters, text)) for text in texts if has(mill, text)]
            self.assertEqual(sorted(made), sorted(wanted), (mill, counters))
            walks = [
                (tie[1], text + tie[2], tuple(one + two for one, two in zip(marks, tie[3])))
                for room, text, marks in walks for tie in machine[1] if tie[0] == room
            ]

    def assert_too_many(self, mill, counters):
        with self.assertRaises(RankError) as taken:
            joined(mill, counters)
        self.assertIs(type(taken.exception), TooMany)
        self.assert_thirteen(mill, counters, taken.exception.texts)
        return taken.exception.texts

    def assert_thirteen(self, mill, counters, texts):
        self.assertIs(type(texts), list)
        self.assertEqual(len(texts), 13)
        self.assertTrue(all(type(text) is str and set(text) <= set(mill[0]) for text in texts))
        rooms = [rooms_behind(mill, counters, text) for text in texts]
        self.assertNotIn(None, rooms)
        self.assertEqual(len(set(rooms)), 13)


class Joined(JoinedCase):
    def test_the_order_of_rooms_and_ties(self):
        told = self.assert_joined(MILL, COUNTERS)
        # Together: room 0 of all; by a the rooms 1, 0, 1; from there by a the same, by b the rooms 2, 0, 0.
        self.assertEqual(told[0], (False, False, True))
        self.assertEqual(
            told[1], ((0, 1, "a", (1, 0)), (1, 1, "a", (1, 0)), (1, 2, "b", (0, 0)), (2, 1, "a", (1, 0)))
        )
        self.assert_texts(MILL, COUNTERS, told, 7)

    def test_rooms_in_the_order_in_which_they_are_first_come_to(self):
        mill = ("ab", (True, False, True, False), ((3, 2), (None, None), (1, 0), (2, 1)))
        told = self.assert_joined(mill, [circle("ab", 1)])
        self.assertEqual(told[0], (True, False, True, False))
        wanted = (
            (0, 1, "a", (1,)), (0, 2, "b", (1,)), (1, 2, "a", (1,)), (1, 3, "b", (1,)), (2, 3, "a", (1,)),
            (2, 0, "b", (1,)),
        )
        self.assertEqual(told[1], wanted)

    def test_letters_in_the_mills_order(self):
        told = self.assert_joined(("ba", (True, False), ((1, 0), (None, 1))), [("ba", (((0, 7), (0, 2)),))])
        self.assertEqual(told, ((True, False), ((0, 1, "b", (7,)), (0, 0, "a", (2,)), (1, 1, "a", (2,)))))

    def test_one_room(self):
        self.assertEqual(self.assert_joined(("a", (False,), ((None,),)), [circle("a", 4)]), ((False,), ()))
        self.assertEqual(
            self.assert_joined(free_mill("a"), [circle("a", 1)] * 6), ((True,), ((0, 0, "a", (1,) * 6),))
        )

    def test_four_letters(self):
        told = self.assert_joined(free_mill("dcba"), [circle("dcba", 3), circle("dcba", 4)])
        self.assertEqual((len(told[0]), len(told[1])), (12, 48))
        self.assertEqual([tie[2] for tie in told[1]], list("dcba") * 12)

    def test_rooms_from_which_no_end_can_be_come_to(self):
        mill = ("ab", (True, False, False), ((0, 1), (2, 1), (1, None)))
        told = self.assert_joined(mill, [circle("ab", 1)])
        self.assertEqual(told[0], (True, False, False))
        self.assertEqual(len(told[1]), 5)
        self.assert_texts(mill, [circle("ab", 1)], told, 6)

    def test_a_mill_without_ends(self):
        mill = ("a", (False,) * 3, ((1,), (2,), (0,)))
        told = self.assert_joined(mill, [circle("a", 2)])
        self.assertEqual(told[0], (False,) * 6)

    def test_rooms_that_no_letter_leads_to_are_left_out(self):
        mill = ("a", (False, True, True), ((2,), (1,), (None,)))
        self.assertEqual(self.assert_joined(mill, [circle("a", 2)]), ((False, True), ((0, 1, "a", (0,)),)))

    def test_just_twelve_rooms(self):
        self.assertEqual(len(self.assert_joined(free_mill("a"), [circle("a", 3), circle("a", 4)])[0]), 12)
        six = ("a", (True,) * 6, tuple(((room + 1) % 6,) for room in range(6)))
        self.assertEqual(len(self.assert_joined(six, [circle("a", 4)])[0]), 12)
        six_and_stop = ("ab", (True,) * 6, tuple(((room + 1) % 6, None) for room in range(6)))
        self.assertEqual(len(self.assert_joined(six_and_stop, [circle("ab", 4)] * 5)[0]), 12)

    def test_numbers_of_thirty_nine_figures(self):
        told = self.assert_joined(free_mill("ab"), [("ab", (((0, FAR), (0, 0)),))])
        self.assertEqual(told, ((True,), ((0, 0, "a", (FAR,)), (0, 0, "b", (0,)))))

    def test_mixed_mills_and_counters(self):
        seen = set()
        for seed in range(150):
            mill, counters = some_mill_and_counters(seed)
            many = len(plain_texts(mill, counters, 13))
            seen.add(many)
            if many > 12:
                self.assert_too_many(mill, counters)
            else:
                told = self.assert_joined(mill, counters)
                self.assertEqual(len(told[0]), many)
                self.assert_texts(mill, counters, told, 8 - 2 * len(mill[0]) + 2)
        self.assertTrue({1, 2, 3, 6, 13} <= seen, seen)

    def test_the_same_asked_again(self):
        counters = copy.deepcopy(COUNTERS)
        told = joined(MILL, counters)
        self.assertEqual(counters, COUNTERS)
        counters.reverse()
        counters.append("more")
        self.assertEqual(told, joined(MILL, COUNTERS))

    def test_more_than_six_counters_and_rooms_are_not_refused(self):
        mill = ("a", (True,) * 8, tuple(((room + 1) % 8,) for room in range(8)))
        told = joined(mill, [circle("a", 1)] * 7)
        self.assertEqual((len(told[0]), told[1][7]), (8, (7, 0, "a", (1,) * 7)))


class TooManyRooms(JoinedCase):
    # A room to begin with, and then a circle of three.
    TAIL = ("a", (((1, 0),), ((2, 0),), ((3, 0),), ((1, 1),)))

    def test_thirteen_rooms(self):
        texts = self.assert_too_many(free_mill("a"), [circle("a", 4), self.TAIL])
        self.assertEqual(sorted(texts), ["a" * length for length in range(13)])

    def test_thirteen_rooms_of_which_no_end_can_be_come_to(self):
        self.assert_too_many(("a", (False,), ((0,),)), [circle("a", 4), self.TAIL])

    def test_counters_go_no_further_than_the_mill(self):
        counters = [circle("a", 4), self.TAIL]
        mill = ("a", (True,) * 2, ((1,), (None,)))
        self.assertEqual(len(self.assert_joined(mill, counters)[0]), 2)

    def test_far_more(self):
        rows = tuple(tuple((room + step) % 6 for step in range(4)) for room in range(6))
        mill = ("abcd", (False,) * 5 + (True,), rows)
        counters = [some_counter(seed, "abcd", 4) for seed in range(6)]
        self.assert_too_many(mill, counters)

    def test_twice(self):
        counters = [circle("a", 4), self.TAIL]
        for refused in (lambda: joined(free_mill("a"), counters), lambda: best_text(free_mill("a"), counters, (0, 1))):
            taken = []
            for turn in range(3):
                with self.assertRaises(TooMany) as context:
                    refused()
                self.assert_thirteen(free_mill("a"), counters, context.exception.texts)
                taken.append((context.exception.texts, list(context.exception.texts)))
                if turn == 0:
                    context.exception.texts.clear()
            self.assertEqual(taken[0], ([], taken[1][1]))
            self.assertEqual(taken[1][0], taken[1][1])
            self.assertEqual(taken[1][1], taken[2][1])


class BestText(JoinedCase):
    def assert_told(self, mill, counters, ranking):
        told = best_text(mill, counters, ranking)
        if told is not None:
            self.assertIs(type(told), tuple)
            self.assertEqual(len(told), 2)
            self.assertIs(type(told[0]), str)
            assert_tuple_of_numbers(self, told[1])
            self.assertTrue(plainly_has(mill, told[0]), (mill, told))
            self.assertEqual(told[1], plain_marks(counters, told[0]), (mill, counters, told))
        return told

    def assert_by_all_texts(self, mill, counters, ranking, longest):
        told = self.assert_told(mill, counters, ranking)
        keys = [
            plain_key(ranking, plain_marks(counters, text))
            for text in texts_up_to(mill[0], longest) if plainly_has(mill, text)
        ]
        self.assertEqual(None if told is None else plain_key(ranking, told[1]), min(keys, default=None))

    def assert_no_ranking(self, mill, counters, ranking):
        with self.assertRaises(RankError) as taken:
            best_text(mill, counters, ranking)
        self.assertIs(type(taken.exception), NoRanking, ranking)

    def test_a_mill_whose_texts_are_without_end(self):
        self.assertEqual(self.assert_told(MILL, COUNTERS, (0, 1)), ("ab", (1, 0)))
        self.assertEqual(self.assert_told(MILL, COUNTERS, (1, 0)), ("ab", (1, 0)))

    def test_the_empty_text(self):
        self.assertEqual(self.assert_told(free_mill("abcd"), [circle("abcd", 1)], (0,)), ("", (0,)))

    def test_texts_that_all_count_nought(self):
        self.assertEqual(self.assert_told(free_mill("ab"), [("ab", (((0, 0), (0, 0)),))], (0,))[1], (0,))
        mill = ("ab", (False, True), ((1, 1), (0, 0)))
        told = self.assert_told(mill, [("ab", (((0, 0), (0, 0)),))], (0,))
        self.assertEqual((len(told[0]) % 2, told[1]), (1, (0,)))

    def test_the_ranking_chooses(self):
        mill = ("ab", (False, True), ((1, 1), (None, None)))
        counters = [("ab", (((0, 0), (0, 1)),)), ("ab", (((0, 5), (0, 0)),))]
        self.assertEqual(self.assert_told(mill, counters, (0, 1)), ("a", (0, 5)))
        self.assertEqual(self.assert_told(mill, counters, (1, 0)), ("b", (1, 0)))

    def test_a_longer_text_may_be_better(self):
        mill = ("ab", (False, False, True), ((1, 2), (1, 2), (None, None)))
        # A b counts unless two letters or more stand ahead of it.
        counters = [("ab", (((1, 0), (0, 4)), ((2, 0), (0, 2)), ((2, 0), (0, 0))))]
        told = self.assert_told(mill, counters, (0,))
        self.assertEqual(told[1], (0,))
        self.assertGreaterEqual(len(told[0]), 3)

    def test_a_mill_without_a_text(self):
        for mill in (
            ("a", (False,), ((0,),)), ("a", (False,), ((None,),)), ("ab", (False, True), ((0, None), (1, 0))),
            ("ab", (False, False, True), ((1, 1), (0, None), (0, 0))),
        ):
            counters = [circle(mill[0], 2)] * 2
            for ranking in every_ranking(2):
                self.assertIsNone(self.assert_told(mill, counters, ranking))

    def test_numbers_of_thirty_nine_figures(self):
        mill = ("ab", (False, False, True), ((1, 2), (None, 2), (None, None)))
        counters = [("ab", (((0, FAR), (0, FAR)),)), ("ab", (((1, 0), (0, FAR)), ((1, 0), (1, 1))))]
        self.assertEqual(self.assert_told(mill, counters, (0, 1)), ("b", (FAR, FAR)))
        self.assertEqual(self.assert_told(mill, counters, (1, 0)), ("ab", (2 * FAR, 1)))

    def test_against_all_texts_up_to_some_length(self):
        seen = []
        for seed in range(120):
            mill, counters = some_mill_and_counters(seed)
            many = len(plain_texts(mill, counters, 13))
            if len(mill[0]) ** many < 3000:
                for ranking in every_ranking(len(counters)):
                    # No text is better than all those that come to no room twice.
                    self.assert_by_all_texts(mill, counters, ranking, many - 1)
                seen.append(many)
        self.assertGreater(len(seen), 40)
        self.assertGreater(max(seen), 6)

    def test_what_the_other_parts_tell(self):
        for seed in range(80):
            mill, counters = some_mill_and_counters(seed)
            if len(plain_texts(mill, counters, 13)) <= 12:
                machine = joined(mill, counters)
                for ranking in every_ranking(len(counters)):
                    told = best_text(mill, counters, ranking)
                    walked = best_walk(len(counters), machine, ranking)
                    self.assertEqual(told is None, walked is None)
                    if told is not None:
                        self.assertEqual(told[1], walked[0])
                        self.assertTrue(has(mill, told[0]))
                        self.assertEqual(marks_of(counters, told[0]), told[1])

    def test_what_is_no_ranking(self):
        for ranking in BAD_RANKINGS:
            for mill in (free_mill("a"), ("a", (False,), ((None,),))):
                self.assert_no_ranking(mill, [circle("a", 1)] * 3, ranking)

    def test_rankings_of_other_counts(self):
        for count, other in UNLIKE_COUNTS:
            self.assert_no_ranking(free_mill("a"), [circle("a", 1)] * count, tuple(range(other)))

    def test_no_ranking_goes_ahead_of_too_many(self):
        counters = [circle("a", 4), TooManyRooms.TAIL]
        for ranking in ((), (0,), (0, 0), (1, 2), (0, 1, 2), (0, -1), (0, FORTY)):
            self.assert_no_ranking(free_mill("a"), counters, ranking)
        with self.assertRaises(TooMany):
            best_text(free_mill("a"), counters, (1, 0))

    def test_too_many_also_where_the_mill_has_no_text(self):
        with self.assertRaises(TooMany):
            best_text(("a", (False,), ((0,),)), [circle("a", 4), TooManyRooms.TAIL], (0, 1))

    def test_what_is_handed_in_is_not_changed(self):
        counters = copy.deepcopy(COUNTERS)
        for turn in range(2):
            told = best_text(MILL, counters, (0, 1))
            self.assertEqual(counters, COUNTERS)
        counters.clear()
        self.assertEqual(told, ("ab", (1, 0)))


if __name__ == "__main__":
    unittest.main()
