"""Marks and words: what the wishes count against the sayings of a word."""

from tonguerank.errors import NoCount, NoMarks, NoWord

MOST_WISHES = 6
MOST_SAYINGS = 12


# For Python True and False are ints, for the document they are no whole numbers.
def is_whole(value):
    return isinstance(value, int) and not isinstance(value, bool)


# The refusals here show no number that was handed in: Python refuses to write very long ones.
def check_count(count):
    if not is_whole(count) or not 1 <= count <= MOST_WISHES:
        raise NoCount("a count of wishes is a whole number from one to six")


def is_mark(value):
    return is_whole(value) and value >= 0


def marks_from(count, row):
    marks = tuple(row)
    if len(marks) != count or not all([is_mark(value) for value in marks]):
        raise NoMarks("marks are a whole number from 0 on for each wish")
    return marks


def word_of(count, rows):
    check_count(count)
    # All rows are read, also where they are too many: NoMarks goes ahead of NoWord.
    word = tuple([marks_from(count, row) for row in rows])
    if not 1 <= len(word) <= MOST_SAYINGS:
        raise NoWord("a word has from one to twelve sayings")
    return word
