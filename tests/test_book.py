"""Points 2 to 4 and 28 to 30: the book."""

import copy
import itertools
import unittest

from plain import (
    FORTY, assert_clashing_places, assert_pair, mixed_numbers, mixed_word, plain_bests, plain_row, rankings_that_fit,
)
from tonguerank.book import Book
from tonguerank.errors import Clash, NoMarks, NoNames, NoSaying, NoText, NoWord, RankError
from tonguerank.floors import floors

FAR = 10 ** 39 - 1
# All signs from the blank to ~ that are no small letters.
NO_LETTERS = [chr(code) for code in range(ord(" "), ord("~") + 1) if not "a" <= chr(code) <= "z"]
BAD_TEXTS = ["", "a" * 21, "z" * 200, "Ab", "aB", "a b", " ab", "ab ", "a-b", "ab1", "~", "a\n"]
BAD_MARKS = ([], [1], [1, 2, 3], [-1, 0], [0, -1], (), (1,), (0, 0, 0), (0, -FORTY))
SAYINGS = [("pat", [0, 1]), ("pata", [1, 0]), ("pa", [1, 1])]


def some_book():
    """Two words: the first one's first two sayings go by the one wish and by the other."""
    book = Book(["coda", "keep"])
    book.enter("pat", SAYINGS)
    book.enter("ik", [("ik", (0, 2)), ("i", (1, 0))])
    return book


def state_of(book, words):
    """All that a book tells of itself, a refusal as its class and its places."""
    told = [book.words(), book.rows(), book.floors()]
    for word in words:
        try:
            told.append(book.say(word))
        except Clash as refusal:
            told.append((Clash, refusal.places))
    return told


class PlainBook:
    """Points 28 to 30 in another way: what was heard is held as (word, saying) alone, all else is told anew."""

    def __init__(self, names):
        self.names = names
        self.entered = []
        self.heard = []

    def sayings(self, word):
        return [sayings for other, sayings in self.entered if other == word][0]

    def rows(self):
        return [
            plain_row(dict(self.sayings(word))[text], marks)
            for word, text in self.heard for other, marks in self.sayings(word) if other != text
        ]

    def say(self, word):
        fitting = rankings_that_fit(len(self.names), self.rows())
        if not fitting:
            return None
        sayings = self.sayings(word)
        return [sayings[number][0] for number in plain_bests(fitting[0], [marks for text, marks in sayings])]


class BookCase(unittest.TestCase):
    def assert_refused(self, refusal, deed, *handed_in):
        with self.assertRaises(RankError) as taken:
            deed(*handed_in)
        self.assertIs(type(taken.exception), refusal, handed_in)

    def assert_deed_refused(self, refusal, book, deed, *handed_in):
        """A refused deed changes nothing."""
        words = book.words()
        before = state_of(book, words)
        for turn in range(2):
            self.assert_refused(refusal, deed, *handed_in)
        self.assertEqual(state_of(book, words), before)


class Names(BookCase):
    def assert_names(self, names):
        book = Book(names)
        self.assertEqual(book.floors(), (True, [names]))
        self.assertEqual(book.words(), [])
        self.assertEqual(book.rows(), [])

    def test_one_to_six_names(self):
        for many in range(1, 7):
            self.assert_names(["onset", "coda", "keep", "x", "voice", "abcdefghijkl"][:many])

    def test_names_of_one_and_twelve_signs(self):
        self.assert_names(["a", "z", "a" * 12, "z" * 12, "ab", "abcdefghijkl"])

    def test_no_names_and_too_many(self):
        self.assert_refused(NoNames, Book, [])
        for many in (7, 8, 26):
            self.assert_refused(NoNames, Book, list("abcdefghijklmnopqrstuvwxyz")[:many])

    def test_the_same_name_twice(self):
        for names in (["a", "a"], ["a", "b", "a"], ["b", "c", "d", "e", "f", "b"], ["keep"] * 6, ["a"] * 7):
            self.assert_refused(NoNames, Book, names)

    def test_names_too_short_or_too_long(self):
        for name in ("", "a" * 13, "z" * 200):
            self.assert_refused(NoNames, Book, [name])
            self.assert_refused(NoNames, Book, [name, "keep"])
            self.assert_refused(NoNames, Book, ["keep", "coda", name])

    def test_signs_that_are_no_small_letters(self):
        for sign in NO_LETTERS:
            for name in (sign, sign + "ab", "ab" + sign, "a" + sign + "b"):
                self.assert_refused(NoNames, Book, [name])
                self.assert_refused(NoNames, Book, ["a", "b", "c", "d", "e", name])

    def test_the_handed_in_list_changed_behind_the_call(self):
        names = ["coda", "keep"]
        book = Book(names)
        names.reverse()
        names.append("more")
        self.assertEqual(book.floors(), (True, [["coda", "keep"]]))

    def test_what_is_handed_in_is_not_changed(self):
        names = ["coda", "keep"]
        Book(names).enter("pat", SAYINGS)
        self.assertEqual(names, ["coda", "keep"])
        bad = ["coda", "coda"]
        self.assert_refused(NoNames, Book, bad)
        self.assertEqual(bad, ["coda", "coda"])


class Enter(BookCase):
    def test_words_stand_in_the_order_in_which_they_were_entered(self):
        book = Book(["coda", "keep"])
        for number, word in enumerate(("zu", "an", "mit", "bei")):
            self.assertIsNone(book.enter(word, SAYINGS))
            self.assertEqual(book.words(), ["zu", "an", "mit", "bei"][:number + 1])

    def test_nothing_is_heard_yet(self):
        book = some_book()
        self.assertEqual(book.rows(), [])
        self.assertEqual(book.floors(), (True, [["coda", "keep"]]))

    def test_marks_as_lists_and_tuples_and_sayings_as_lists(self):
        book = Book(["coda", "keep"])
        book.enter("a", [("x", [0, 1]), ("y", (1, 0)), ["z", (0, 1)], ["w", [2, 2]]])
        self.assertEqual(book.say("a"), ["x", "z"])

    def test_one_and_twelve_sayings(self):
        book = Book(["coda"])
        book.enter("one", [("x", [5])])
        book.enter("twelve", [("x" * (1 + number), [12 - number]) for number in range(12)])
        self.assertEqual(book.say("one"), ["x"])
        self.assertEqual(book.say("twelve"), ["x" * 12])

    def test_texts_of_one_and_twenty_signs(self):
        book = Book(["coda"])
        book.enter("a" * 20, [("z" * 20, [0]), ("z", [1])])
        book.enter("a", [("a" * 20, [0]), ("a", [0])])
        self.assertEqual(book.words(), ["a" * 20, "a"])
        self.assertEqual(book.say("a"), ["a" * 20, "a"])

    def test_one_text_may_be_a_words_and_several_words_sayings(self):
        book = Book(["coda"])
        book.enter("a", [("a", [0]), ("b", [1])])
        book.enter("b", [("a", [1]), ("b", [0])])
        book.hear("a", "b")
        self.assertEqual(book.rows(), ["L"])
        book.hear("b", "b")
        self.assertEqual(book.rows(), ["L", "W"])

    def test_texts_that_are_none(self):
        book = some_book()
        for text in BAD_TEXTS + NO_LETTERS:
            self.assert_deed_refused(NoText, book, book.enter, text, SAYINGS)
            self.assert_deed_refused(NoText, book, book.enter, "new", [(text, [0, 0])])
            self.assert_deed_refused(NoText, book, book.enter, "new", [(text, [0, 0])] + SAYINGS)
            self.assert_deed_refused(NoText, book, book.enter, "new", SAYINGS + [(text, [0, 0])])

    def test_a_word_that_is_entered_already(self):
        book = some_book()
        for word in ("pat", "ik"):
            self.assert_deed_refused(NoText, book, book.enter, word, SAYINGS)
            self.assert_deed_refused(NoText, book, book.enter, word, [("new", [0, 0])])
            self.assert_deed_refused(NoText, book, book.enter, word, [])

    def test_marks_that_are_none(self):
        book = some_book()
        for marks in BAD_MARKS:
            self.assert_deed_refused(NoMarks, book, book.enter, "new", [("x", marks)])
            self.assert_deed_refused(NoMarks, book, book.enter, "new", [("x", marks)] + SAYINGS)
            self.assert_deed_refused(NoMarks, book, book.enter, "new", SAYINGS + [("x", marks)])
        self.assert_deed_refused(NoMarks, book, book.enter, "new", [("x", [True, 0])])

    def test_marks_of_another_count(self):
        for count in range(1, 7):
            book = Book(list("abcdef")[:count])
            for other in range(8):
                if other != count:
                    self.assert_deed_refused(NoMarks, book, book.enter, "new", [("x", [0] * other)])

    def test_no_sayings_and_too_many(self):
        book = some_book()
        self.assert_deed_refused(NoWord, book, book.enter, "new", [])
        for many in (13, 14, 20):
            sayings = [("x" * (1 + number), [0, 0]) for number in range(many)]
            self.assert_deed_refused(NoWord, book, book.enter, "new", sayings)

    def test_two_sayings_with_the_same_text(self):
        book = some_book()
        for sayings in (
            [("x", [0, 0]), ("x", [0, 0])], [("x", [0, 0]), ("x", [1, 0])], SAYINGS + [("pat", [3, 3])],
            [("x", [0, 0])] * 13,
        ):
            self.assert_deed_refused(NoWord, book, book.enter, "new", sayings)

    def test_no_text_goes_ahead_of_all(self):
        book = some_book()
        marks_wrong = [("x", [0])]
        none_and_many = ([], [("x" * (1 + number), [0, 0]) for number in range(13)], [("x", [0, 0])] * 2)
        for sayings in (marks_wrong, marks_wrong * 13) + none_and_many:
            for word in ("Pat", "", "pat"):
                self.assert_deed_refused(NoText, book, book.enter, word, sayings)
            self.assert_deed_refused(NoText, book, book.enter, "new", sayings + [("X", [0, 0])])
            self.assert_deed_refused(NoText, book, book.enter, "new", [("X", [0, 0])] + sayings)
        self.assert_deed_refused(NoText, book, book.enter, "new", [("X", [0])])

    def test_no_marks_goes_ahead_of_no_word(self):
        book = some_book()
        many = [("x" * (1 + number), [0, 0]) for number in range(13)]
        for marks in BAD_MARKS:
            for sayings in (many, [("x", [0, 0])] * 2, [("x", [0, 0])] * 14):
                self.assert_deed_refused(NoMarks, book, book.enter, "new", sayings + [("y", marks)])
                self.assert_deed_refused(NoMarks, book, book.enter, "new", [("y", marks)] + sayings)

    def test_a_refused_word_may_be_entered_later(self):
        book = some_book()
        self.assert_refused(NoMarks, book.enter, "new", [("x", [0])])
        self.assert_refused(NoWord, book.enter, "new", [])
        self.assert_refused(NoText, book.say, "new")
        self.assert_refused(NoText, book.hear, "new", "x")
        book.enter("new", [("x", [0, 0])])
        self.assertEqual(book.words(), ["pat", "ik", "new"])

    def test_lists_changed_behind_the_call(self):
        marks = [0, 1]
        saying = ["x", marks]
        sayings = [saying, ("y", [1, 0])]
        kept = copy.deepcopy(sayings)
        book = Book(["coda", "keep"])
        book.enter("a", sayings)
        self.assertEqual(sayings, kept)
        marks[0] = 9
        marks.append(2)
        saying[0] = "z"
        sayings.clear()
        book.hear("a", "x")
        self.assertEqual(book.rows(), ["WL"])
        self.assertEqual(book.say("a"), ["x"])

    def test_what_is_refused_is_not_changed(self):
        sayings = [["x", [0, 0]], ["x", [1, 1]]]
        self.assert_refused(NoWord, some_book().enter, "new", sayings)
        self.assertEqual(sayings, [["x", [0, 0]], ["x", [1, 1]]])


class Heard(BookCase):
    def test_rows_against_all_other_sayings_in_their_order(self):
        book = some_book()
        self.assertIsNone(book.hear("pat", "pata"))
        self.assertEqual(book.rows(), ["LW", "eW"])

    def test_the_order_of_hearing(self):
        book = some_book()
        book.hear("ik", "ik")
        book.hear("pat", "pat")
        self.assertEqual(book.rows(), ["WL", "WL", "We"])
        book = some_book()
        book.hear("pat", "pat")
        book.hear("ik", "ik")
        self.assertEqual(book.rows(), ["WL", "We", "WL"])

    def test_several_sayings_of_one_word(self):
        book = some_book()
        for saying in ("pa", "pat", "pata"):
            book.hear("pat", saying)
        self.assertEqual(book.rows(), ["Le", "eL", "WL", "We", "LW", "eW"])

    def test_a_word_of_one_saying_gives_no_rows(self):
        book = some_book()
        book.enter("one", [("x", [5, 5])])
        book.hear("one", "x")
        self.assertEqual(book.rows(), [])
        book.forget("one", "x")
        self.assert_deed_refused(NoSaying, book, book.forget, "one", "x")

    def test_sayings_with_the_same_marks(self):
        book = Book(["coda"])
        book.enter("a", [("x", [1]), ("y", [1]), ("z", [2])])
        book.hear("a", "y")
        self.assertEqual(book.rows(), ["e", "W"])

    def test_heard_twice_it_gives_rows_once_where_it_was_heard_first(self):
        book = some_book()
        book.hear("ik", "ik")
        book.hear("pat", "pat")
        for turn in range(3):
            book.hear("ik", "ik")
            self.assertEqual(book.rows(), ["WL", "WL", "We"])
        book.forget("ik", "ik")
        self.assertEqual(book.rows(), ["WL", "We"])
        self.assert_deed_refused(NoSaying, book, book.forget, "ik", "ik")

    def test_heard_anew_it_stands_at_the_end(self):
        book = some_book()
        book.hear("ik", "i")
        book.hear("pat", "pat")
        self.assertEqual(book.rows(), ["LW", "WL", "We"])
        self.assertIsNone(book.forget("ik", "i"))
        self.assertEqual(book.rows(), ["WL", "We"])
        book.hear("ik", "i")
        self.assertEqual(book.rows(), ["WL", "We", "LW"])

    def test_words_entered_later_change_no_rows(self):
        book = some_book()
        book.hear("ik", "i")
        book.enter("new", SAYINGS)
        self.assertEqual(book.rows(), ["LW"])
        book.hear("new", "pat")
        self.assertEqual(book.rows(), ["LW", "WL", "We"])

    def test_forgetting_leaves_the_words(self):
        book = some_book()
        book.hear("ik", "i")
        book.forget("ik", "i")
        self.assertEqual(book.words(), ["pat", "ik"])
        self.assertEqual(book.rows(), [])

    def test_marks_of_thirty_nine_figures(self):
        book = Book(["coda", "keep"])
        book.enter("a", [("x", [FAR, FAR - 1]), ("y", [FAR - 1, FAR]), ("z", [FORTY, FAR - 1])])
        book.hear("a", "x")
        self.assertEqual(book.rows(), ["LW", "We"])
        self.assertEqual(book.floors(), (True, [["keep"], ["coda"]]))

    def test_more_than_fifty_rows(self):
        book = Book(["coda"])
        for word in ("a", "b", "c", "d", "e", "f"):
            book.enter(word, [("x" * (1 + number), [number]) for number in range(12)])
            book.hear(word, "x")
        self.assertEqual(book.rows(), ["W"] * 66)

    def test_other_words_and_other_sayings_are_refused(self):
        book = some_book()
        book.hear("pat", "pat")
        for deed in (book.hear, book.forget):
            for word in ("new", "pata", "", "Pat", "pat ", "a" * 200):
                for saying in ("pat", "x", "", "A"):
                    self.assert_deed_refused(NoText, book, deed, word, saying)
            for saying in ("ik", "pataa", "", "PAT", "pat ", "a" * 200):
                self.assert_deed_refused(NoSaying, book, deed, "pat", saying)

    def test_forgetting_what_was_not_heard(self):
        book = some_book()
        self.assert_deed_refused(NoSaying, book, book.forget, "pat", "pat")
        book.hear("pat", "pata")
        self.assert_deed_refused(NoSaying, book, book.forget, "pat", "pat")
        self.assert_deed_refused(NoSaying, book, book.forget, "ik", "ik")
        book.forget("pat", "pata")
        self.assert_deed_refused(NoSaying, book, book.forget, "pat", "pata")

    def test_a_saying_of_another_word_is_forgotten_by_its_own_word_alone(self):
        book = Book(["coda"])
        for word in ("a", "b"):
            book.enter(word, [("x", [0]), ("y", [1])])
        book.hear("a", "x")
        self.assert_deed_refused(NoSaying, book, book.forget, "b", "x")
        book.hear("b", "x")
        book.forget("a", "x")
        self.assert_deed_refused(NoSaying, book, book.forget, "a", "x")
        self.assertEqual(book.rows(), ["W"])


class Told(BookCase):
    def test_floors_by_the_names(self):
        book = Book(["voice", "coda", "keep"])
        book.enter("a", [("x", [1, 0, 1]), ("y", [0, 1, 1])])
        self.assertEqual(book.floors(), (True, [["voice", "coda", "keep"]]))
        book.hear("a", "x")
        self.assertEqual(book.floors(), (True, [["coda", "keep"], ["voice"]]))
        book.forget("a", "x")
        book.hear("a", "y")
        self.assertEqual(book.floors(), (True, [["voice", "keep"], ["coda"]]))

    def test_the_names_in_a_floor_stand_in_the_order_of_the_wishes(self):
        book = Book(["z", "y", "x", "w", "v", "u"])
        book.enter("a", [("x", [1, 0, 1, 1, 0, 1]), ("y", [0, 1, 0, 1, 1, 1])])
        book.hear("a", "x")
        self.assertEqual(book.floors(), (True, [["y", "w", "v", "u"], ["z", "x"]]))

    def test_places_of_rows_that_clash(self):
        book = some_book()
        book.hear("ik", "i")
        book.hear("ik", "ik")
        self.assertEqual(book.floors(), (False, [0, 1]))
        book.hear("pat", "pa")
        told = book.floors()
        self.assertIs(told[0], False)
        assert_clashing_places(self, 2, book.rows(), told[1])

    def test_the_best_sayings_by_the_first_ranking(self):
        book = some_book()
        self.assertEqual(book.say("pat"), ["pat"])
        self.assertEqual(book.say("ik"), ["ik"])
        book.hear("pat", "pata")
        self.assertEqual(book.say("pat"), ["pata"])
        self.assertEqual(book.say("ik"), ["i"])
        book.forget("pat", "pata")
        self.assertEqual(book.say("ik"), ["ik"])

    def test_the_first_ranking_and_not_one_that_goes_by_the_floors(self):
        book = Book(["a", "b", "c"])
        book.enter("heard", [("x", [0, 1, 0]), ("y", [1, 0, 0])])
        book.enter("asked", [("x", [0, 1, 0]), ("y", [0, 0, 1])])
        book.hear("heard", "x")
        self.assertEqual(book.floors(), (True, [["a", "c"], ["b"]]))
        self.assertEqual(book.say("asked"), ["y"])

    def test_best_sayings_in_the_order_in_which_they_were_entered(self):
        book = Book(["a", "b"])
        book.enter("word", [("zz", [0, 1]), ("c", [1, 0]), ("aa", [0, 1]), ("mm", [0, 2]), ("b", [0, 1])])
        self.assertEqual(book.say("word"), ["zz", "aa", "b"])
        book.hear("word", "c")
        self.assertEqual(book.say("word"), ["c"])

    def test_a_heard_saying_is_among_the_best(self):
        for seed in range(20):
            word = mixed_word(3, 5, 3, seed)
            for number in range(5):
                book = Book(["a", "b", "c"])
                book.enter("word", list(zip("vwxyz", word)))
                book.hear("word", "vwxyz"[number])
                if book.floors()[0]:
                    self.assertIn("vwxyz"[number], book.say("word"))

    def test_another_word_is_refused_ahead_of_a_clash(self):
        book = some_book()
        for word in ("new", "", "Pat", "a" * 200):
            self.assert_deed_refused(NoText, book, book.say, word)
        book.hear("ik", "i")
        book.hear("ik", "ik")
        for word in ("new", "", "Pat", "a" * 200):
            self.assert_deed_refused(NoText, book, book.say, word)

    def test_say_is_refused_where_no_ranking_fits(self):
        book = some_book()
        book.hear("pat", "pa")
        for word in ("pat", "ik"):
            for turn in range(2):
                with self.assertRaises(RankError) as taken:
                    book.say(word)
                self.assertIs(type(taken.exception), Clash)
                assert_clashing_places(self, 2, book.rows(), taken.exception.places)
                taken.exception.places.clear()
        book.forget("pat", "pa")
        self.assertEqual(book.say("pat"), ["pat"])


class OwnLists(BookCase):
    def test_told_lists_changed_and_asked_again(self):
        book = some_book()
        book.hear("pat", "pata")
        before = state_of(book, ["pat", "ik"])
        book.words().reverse()
        book.rows().append("WW")
        told = book.floors()
        told[1][0].append("more")
        told[1].reverse()
        book.say("pat").clear()
        self.assertEqual(state_of(book, ["pat", "ik"]), before)

    def test_told_places_changed_and_asked_again(self):
        book = some_book()
        book.hear("ik", "i")
        book.hear("ik", "ik")
        book.floors()[1].clear()
        self.assertEqual(book.floors(), (False, [0, 1]))
        for turn in range(2):
            with self.assertRaises(Clash) as taken:
                book.say("pat")
            self.assertEqual(taken.exception.places, [0, 1])
            taken.exception.places.append(7)

    def test_later_deeds_change_nothing_that_was_told(self):
        book = some_book()
        book.hear("pat", "pata")
        told = (book.words(), book.rows(), book.floors(), book.say("pat"))
        kept = copy.deepcopy(told)
        book.enter("new", SAYINGS)
        book.hear("ik", "i")
        book.forget("pat", "pata")
        self.assertEqual(told, kept)

    def test_two_books_side_by_side(self):
        one, two = some_book(), some_book()
        one.hear("pat", "pata")
        one.enter("new", SAYINGS)
        self.assertEqual((two.rows(), two.words(), two.say("ik")), ([], ["pat", "ik"], ["ik"]))
        self.assert_refused(NoText, two.hear, "new", "pat")
        two.hear("ik", "ik")
        self.assertEqual(one.rows(), ["LW", "eW"])
        self.assert_refused(NoSaying, one.forget, "ik", "ik")
        self.assertEqual(one.say("ik"), ["i"])

    def test_two_books_of_the_same_lists(self):
        names = ["coda", "keep"]
        one, two = Book(names), Book(names)
        for book in (one, two):
            book.enter("pat", SAYINGS)
        one.hear("pat", "pat")
        two.hear("pat", "pata")
        self.assertEqual((one.say("pat"), two.say("pat")), (["pat"], ["pata"]))
        self.assertEqual(len(SAYINGS), 3)


class AgainstAPlainBook(BookCase):
    def assert_same(self, book, plain):
        self.assertEqual(book.words(), [word for word, sayings in plain.entered])
        self.assertEqual(book.rows(), plain.rows())
        told = book.floors()
        assert_pair(self, told)
        by_numbers = floors(len(plain.names), plain.rows())
        self.assertIs(told[0], by_numbers[0])
        if told[0]:
            self.assertEqual(told[1], [[plain.names[wish] for wish in floor] for floor in by_numbers[1]])
        else:
            assert_clashing_places(self, len(plain.names), plain.rows(), told[1])
        for word, sayings in plain.entered:
            if told[0]:
                self.assertEqual(book.say(word), plain.say(word))
            else:
                self.assert_refused(Clash, book.say, word)

    def hear_and_forget(self, book, plain, numbers):
        """Each number hears or forgets some saying of some word."""
        for number in numbers:
            word, sayings = plain.entered[number % len(plain.entered)]
            text = sayings[number // 5 % len(sayings)][0]
            if number % 3 == 0 and (word, text) in plain.heard:
                plain.heard.remove((word, text))
                book.forget(word, text)
            elif number % 3 == 0:
                self.assert_refused(NoSaying, book.forget, word, text)
            else:
                if (word, text) not in plain.heard:
                    plain.heard.append((word, text))
                book.hear(word, text)
            self.assert_same(book, plain)

    def test_mixed_deeds(self):
        for seed in range(24):
            count = 1 + seed % 4
            names = list("kcvo")[:count]
            book, plain = Book(names), PlainBook(names)
            for place, text in enumerate(("an", "bei", "zu")):
                word = mixed_word(count, 2 + (seed + place) % 3, 2 + seed % 2, seed + 31 * place)
                sayings = [("vwxyz"[number], marks) for number, marks in enumerate(word)]
                plain.entered.append((text, sayings))
                book.enter(text, sayings)
                self.assert_same(book, plain)
            self.hear_and_forget(book, plain, mixed_numbers(14, 1000, seed))

    def test_each_order_of_hearing(self):
        sayings = [("x", (0, 1, 1)), ("y", (1, 0, 1)), ("z", (1, 1, 0))]
        for order in itertools.permutations(("x", "y", "z")):
            names = ["a", "b", "c"]
            book, plain = Book(names), PlainBook(names)
            plain.entered.append(("word", sayings))
            book.enter("word", sayings)
            for text in order:
                plain.heard.append(("word", text))
                book.hear("word", text)
                self.assert_same(book, plain)


if __name__ == "__main__":
    unittest.main()
