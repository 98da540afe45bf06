"""The book: words with their sayings, what of them was heard, and what is told of that."""

from tonguerank.errors import Clash, NoNames, NoSaying, NoText, NoWord
from tonguerank.floors import floors
from tonguerank.many import first_ranking
from tonguerank.rankings import best
from tonguerank.rows import row_of
from tonguerank.words import MOST_WISHES, word_of

MOST_NAME_SIGNS = 12
MOST_TEXT_SIGNS = 20


def is_plain(text, most):
    return 1 <= len(text) <= most and all(["a" <= sign <= "z" for sign in text])


def are_unlike(texts):
    return len(set(texts)) == len(texts)


def check_names(names):
    if not 1 <= len(names) <= MOST_WISHES or not are_unlike(names):
        raise NoNames("there are from one to six names of wishes, each once")
    if not all([is_plain(name, MOST_NAME_SIGNS) for name in names]):
        raise NoNames("a name has from one to twelve signs from a to z")


def check_texts(texts):
    if not all([is_plain(text, MOST_TEXT_SIGNS) for text in texts]):
        raise NoText("a text has from one to twenty signs from a to z")


def names_of(names, wishes):
    return [names[wish] for wish in wishes]


class Book:
    def __init__(self, names):
        check_names(names)
        self.names = list(names)
        # By the word's text: its sayings' texts, and its sayings' marks.
        self.texts_by_word = {}
        self.marks_by_word = {}
        self.heard = []

    def check_entered(self, word):
        if word not in self.texts_by_word:
            raise NoText("this word is not entered")

    def check_saying(self, word, saying):
        self.check_entered(word)
        if saying not in self.texts_by_word[word]:
            raise NoSaying("this word has no such saying")

    def enter(self, word, sayings):
        texts = [saying[0] for saying in sayings]
        check_texts([word] + texts)
        if word in self.texts_by_word:
            raise NoText("this word is entered already")
        marks = word_of(len(self.names), [saying[1] for saying in sayings])
        if not are_unlike(texts):
            raise NoWord("two sayings have the same text")
        self.texts_by_word[word] = texts
        self.marks_by_word[word] = marks

    def words(self):
        return list(self.texts_by_word)

    def hear(self, word, saying):
        self.check_saying(word, saying)
        if (word, saying) not in self.heard:
            self.heard.append((word, saying))

    def forget(self, word, saying):
        self.check_saying(word, saying)
        if (word, saying) not in self.heard:
            raise NoSaying("this saying was not heard")
        self.heard.remove((word, saying))

    def rows(self):
        told = []
        for word, saying in self.heard:
            number = self.texts_by_word[word].index(saying)
            marks = self.marks_by_word[word]
            others = marks[:number] + marks[number + 1:]
            told.extend([row_of(marks[number], other) for other in others])
        return told

    def floors(self):
        told = floors(len(self.names), self.rows())
        if not told[0]:
            return told
        return (True, [names_of(self.names, floor) for floor in told[1]])

    def say(self, word):
        self.check_entered(word)
        rows = self.rows()
        ranking = first_ranking(len(self.names), rows)
        if ranking is None:
            raise Clash(floors(len(self.names), rows)[1])
        texts = self.texts_by_word[word]
        return [texts[number] for number in best(ranking, self.marks_by_word[word])]
