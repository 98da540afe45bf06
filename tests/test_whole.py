"""Point 4: what the parts tell of the same rows, words, machines and mills agrees."""

import importlib
import inspect
import math
import unittest

from plain import every_row, mixed_numbers, mixed_rows, mixed_rows_that_fit, mixed_word
from tonguerank.book import Book
from tonguerank.chances import chance
from tonguerank.errors import Clash
from tonguerank.floors import floors
from tonguerank.follows import follows, thinned
from tonguerank.learner import learned, moved
from tonguerank.machines import best_walk, machine_of
from tonguerank.many import first_ranking, how_many
from tonguerank.mills import best_text, has, joined, marks_of
from tonguerank.rankings import beats, best, rankings
from tonguerank.rows import fits, fused, row_of, rows_of
from tonguerank.tongues import tongue, tongues
from tonguerank.words import word_of

INTERFACE = {
    "words": {"word_of": ["count", "rows"]},
    "rankings": {"rankings": ["count"], "beats": ["ranking", "one", "two"], "best": ["ranking", "word"]},
    "rows": {
        "rows_of": ["count", "texts"], "row_of": ["one", "two"], "fits": ["ranking", "row"],
        "fused": ["count", "rows"],
    },
    "floors": {"floors": ["count", "rows"]},
    "follows": {"follows": ["count", "rows", "row"], "thinned": ["count", "rows"]},
    "many": {"how_many": ["count", "rows"], "first_ranking": ["count", "rows"]},
    "learner": {"moved": ["standing", "row"], "learned": ["count", "rows"]},
    "chances": {"chance": ["word", "number"]},
    "tongues": {"tongue": ["ranking", "words"], "tongues": ["count", "words"]},
    "machines": {"machine_of": ["count", "ends", "rows"], "best_walk": ["count", "machine", "ranking"]},
    "mills": {
        "marks_of": ["counters", "text"], "has": ["mill", "text"], "joined": ["mill", "counters"],
        "best_text": ["mill", "counters", "ranking"],
    },
    "book": {"Book": ["names"]},
}
METHODS = {
    "enter": ["word", "sayings"], "words": [], "hear": ["word", "saying"], "forget": ["word", "saying"], "rows": [],
    "floors": [], "say": ["word"],
}


def some_rows():
    """Counts with rows, such as fit and such as clash."""
    told = [(count, []) for count in range(1, 7)]
    for seed in range(60):
        count = 2 + seed % 5
        told.append((count, mixed_rows(count, 1 + seed % 5, seed)))
        hidden = rankings(count)[seed * 29 % math.factorial(count)]
        told.append((count, mixed_rows_that_fit(hidden, 1 + seed % 9, seed)))
    return told


class Interface(unittest.TestCase):
    def test_names_and_arguments(self):
        for module, names in INTERFACE.items():
            for name, arguments in names.items():
                with self.subTest(module=module, name=name):
                    made = getattr(importlib.import_module("tonguerank." + module), name)
                    self.assertEqual(list(inspect.signature(made).parameters), arguments)

    def test_methods_of_the_book(self):
        for name, arguments in METHODS.items():
            with self.subTest(name=name):
                self.assertEqual(list(inspect.signature(getattr(Book(["a"]), name)).parameters), arguments)


class OfTheSameRows(unittest.TestCase):
    def test_either_floors_or_rows_that_clash(self):
        clashed = 0
        for count, rows in some_rows():
            told = floors(count, rows)
            fitting = [ranking for ranking in rankings(count) if all(fits(ranking, row) for row in rows)]
            self.assertEqual(how_many(count, rows), len(fitting))
            self.assertEqual(told[0], len(fitting) > 0)
            self.assertEqual(first_ranking(count, rows), fitting[0] if fitting else None)
            if not told[0]:
                clashed += 1
                row = fused(count, [rows[place] for place in told[1]])
                self.assertTrue("L" in row and "W" not in row)
        self.assertGreater(clashed, 10)

    def test_the_learner_comes_to_the_floors(self):
        for count, rows in some_rows():
            told = floors(count, rows)
            if told[0]:
                standing, moves = learned(count, rows)
                for number, floor in enumerate(told[1]):
                    self.assertTrue(all(standing[wish] == number for wish in floor))
                self.assertTrue(all(moved(standing, row) == standing for row in rows))
                self.assertLessEqual(moves, sum(standing))
            else:
                with self.assertRaises(Clash) as taken:
                    learned(count, rows)
                places = taken.exception.places
                self.assertIs(floors(count, [rows[place] for place in places])[0], False)

    def test_a_ranking_that_goes_by_the_floors_fits(self):
        for count, rows in some_rows():
            told = floors(count, rows)
            if told[0]:
                ranking = tuple(wish for floor in told[1] for wish in floor)
                self.assertTrue(all(fits(ranking, row) for row in rows))
                self.assertLessEqual(first_ranking(count, rows), ranking)

    def test_what_follows_leaves_as_many_rankings(self):
        for count, rows in some_rows():
            for row in mixed_rows(count, 6, count) + [fused(count, rows)] + rows[:2]:
                told = follows(count, rows, row)
                self.assertEqual(told[0], how_many(count, rows + [row]) == how_many(count, rows))
                if told[0]:
                    shown = [rows[place] for place in told[1]]
                    self.assertEqual(how_many(count, shown + [row]), how_many(count, shown))
                else:
                    self.assertTrue(all(fits(told[1], other) for other in rows))
                    self.assertFalse(fits(told[1], row))

    def test_thinned_rows_say_as_much(self):
        for count, rows in some_rows():
            kept = [rows[place] for place in thinned(count, rows)]
            self.assertEqual(how_many(count, kept), how_many(count, rows))
            self.assertEqual(first_ranking(count, kept), first_ranking(count, rows))
            if floors(count, rows)[0]:
                self.assertEqual(floors(count, kept), floors(count, rows))
                self.assertEqual(learned(count, kept)[0], learned(count, rows)[0])

    def test_one_row_and_the_other_way_about(self):
        other_way = {"W": "L", "e": "e", "L": "W"}
        for row in every_row(4):
            turned = "".join(other_way[sign] for sign in row)
            if set(row) != {"e"}:
                self.assertEqual(how_many(4, [row]) + how_many(4, [turned]), 24)

    def test_rows_are_told_as_they_were_handed_in(self):
        for count, rows in some_rows():
            self.assertEqual(rows_of(count, rows), rows)


class OfTheSameWords(unittest.TestCase):
    def test_best_beats_rows_and_chances(self):
        for seed in range(30):
            count = 1 + seed % 4
            word = word_of(count, mixed_word(count, 1 + seed % 8, 3, seed))
            for number, marks in enumerate(word):
                rows = [row_of(marks, other) for other in word]
                having = []
                for ranking in rankings(count):
                    among = number in best(ranking, word)
                    self.assertEqual(among, not any(beats(ranking, other, marks) for other in word))
                    self.assertEqual(among, all(fits(ranking, row) for row in rows))
                    if among:
                        having.append(ranking)
                told = chance(word, number)
                self.assertEqual(told[0], bool(having))
                self.assertEqual(how_many(count, rows), len(having))
                if having:
                    self.assertEqual(told[1], having[0])
                else:
                    self.assertIs(floors(count, [rows[place] for place in told[1]])[0], False)

    def test_a_tongue_is_what_its_rows_let(self):
        for seed in range(20):
            count = 1 + seed % 4
            words = [mixed_word(count, 2 + (seed + place) % 4, 3, seed + 9 * place) for place in range(1 + seed % 3)]
            told = tongues(count, words)
            self.assertEqual(sum(many for made, first, many in told), len(rankings(count)))
            for made, first, many in told:
                self.assertEqual(tongue(first, words), made)
                rows = [
                    row_of(word[place], other)
                    for word, places in zip(words, made) for place in places for other in word
                ]
                # These rankings have at least these sayings among the best: alike ones are told together.
                self.assertEqual(how_many(count, rows), many)
                self.assertEqual(first_ranking(count, rows), first)

    def test_the_book_tells_the_same_of_its_rows(self):
        for seed in range(30):
            count = 1 + seed % 4
            names = ["k", "c", "v", "o"][:count]
            word = mixed_word(count, 4, 3, seed)
            book = Book(names)
            book.enter("word", [("wxyz"[number], marks) for number, marks in enumerate(word)])
            number = seed % 4
            book.hear("word", "wxyz"[number])
            others = word[:number] + word[number + 1:]
            self.assertEqual(book.rows(), [row_of(word[number], other) for other in others])
            had = chance(word, number)
            self.assertEqual(book.floors()[0], had[0])
            if had[0]:
                self.assertEqual(book.say("word"), ["wxyz"[place] for place in best(had[1], word)])
                self.assertEqual(
                    book.floors()[1],
                    [[names[wish] for wish in floor] for floor in floors(count, book.rows())[1]],
                )
            else:
                with self.assertRaises(Clash) as taken:
                    book.say("word")
                self.assertIs(floors(count, [book.rows()[place] for place in taken.exception.places])[0], False)


class OfTheSameMachines(unittest.TestCase):
    def test_a_machine_with_a_tie_for_each_saying(self):
        for seed in range(30):
            count = 1 + seed % 4
            word = mixed_word(count, 1 + seed % 12, 4, seed)
            machine = machine_of(count, [False, True], [(0, 1, "", marks) for marks in word])
            for ranking in rankings(count):
                marks, walk, costs = best_walk(count, machine, ranking)
                self.assertEqual(len(walk), 1)
                self.assertIn(walk[0], best(ranking, word))
                self.assertEqual(marks, word[walk[0]])
                self.assertEqual(costs, [(0,) * count, marks])

    def test_a_mill_whose_texts_are_a_words_sayings(self):
        # It has the texts of three letters: eight, the sayings of a word.
        mill = ("ab", (False, False, False, True), ((1, 1), (2, 2), (3, 3), (None, None)))
        texts = [one + two + three for one in "ab" for two in "ab" for three in "ab"]
        self.assertTrue(all(has(mill, text) for text in texts))
        for seed in range(30):
            numbers = mixed_numbers(12, 12, seed)
            counters = [
                ("ab", (((0, numbers[0] % 3), (0, numbers[1] % 3)),)),
                ("ab", (((0, numbers[2] % 3), (1, numbers[3] % 3)), ((0, numbers[4] % 3), (1, numbers[5] % 3)))),
                ("ab", (((1, numbers[6] % 3), (0, numbers[7] % 3)), ((1, numbers[8] % 3), (0, numbers[9] % 3)))),
            ]
            word = word_of(3, [marks_of(counters, text) for text in texts])
            for ranking in rankings(3):
                text, marks = best_text(mill, counters, ranking)
                self.assertIn(texts.index(text), best(ranking, word))
                self.assertEqual(marks, word[texts.index(text)])
                told = best_walk(3, joined(mill, counters), ranking)
                self.assertEqual(told[0], marks)


if __name__ == "__main__":
    unittest.main()
