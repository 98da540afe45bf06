"""Rows: at which wishes some marks are fewer than others, and at which they are more."""

from tonguerank.errors import NoRow
from tonguerank.rankings import check_ranking
from tonguerank.words import check_count

SIGNS = ("W", "e", "L")


def is_row(count, text):
    return len(text) == count and all([sign in SIGNS for sign in text])


def rows_of(count, texts):
    check_count(count)
    for text in texts:
        if not is_row(count, text):
            raise NoRow("a row has one of the signs W, e and L for each wish")
    return list(texts)


def sign_of(one, two):
    if one < two:
        return "W"
    if one > two:
        return "L"
    return "e"


def row_of(one, two):
    return "".join([sign_of(mine, other) for mine, other in zip(one, two)])


def fits(ranking, row):
    check_ranking(len(row), ranking)
    # The first sign other than e decides: behind a W each L is well placed, a first L has no W ahead.
    for wish in ranking:
        if row[wish] != "e":
            return row[wish] == "W"
    return True


def fused_sign(signs):
    for sign in ("L", "W"):
        if sign in signs:
            return sign
    return "e"


def fused(count, rows):
    told = ""
    for wish in range(count):
        told = told + fused_sign([row[wish] for row in rows])
    return told
