"""What several tests share: plain readings of points 7 to 17, and inputs at the bounds."""

import itertools

FORTY = 10 ** 40 - 1
BAD_COUNTS = (0, 7, 8, -1, -6, -7, FORTY, -FORTY, 10 ** 5000)
UNLIKE_COUNTS = tuple(itertools.permutations(range(1, 7), 2))
# None of them is a ranking of three wishes.
BAD_RANKINGS = (
    (), (0,), (0, 1), (1, 2), (0, 1, 2, 3), (0, 1, 2, 2), (0, 1, 2, 0), (0, 0, 1), (0, 1, 1), (2, 2, 2),
    (-1, 0, 1), (0, 1, -1), (-1, -2, -3), (0, 1, 3), (1, 2, 3), (3, 2, 1), (0, 1, FORTY), (-FORTY, 0, 1),
    (0, 2, -2), (0, 1, -1, 2),
)


def every_ranking(count):
    return list(itertools.permutations(range(count)))


def every_row(count):
    return ["".join(signs) for signs in itertools.product("WeL", repeat=count)]


def wishes_with(row, sign):
    return [wish for wish in range(len(row)) if row[wish] == sign]


def fits_by_numbers(numbers, row):
    """Points 10 and 12 alike: each wish with L has a greater number than some wish with W."""
    return all(
        any(numbers[winner] < numbers[loser] for winner in wishes_with(row, "W"))
        for loser in wishes_with(row, "L")
    )


def ranking_fits(ranking, row):
    return fits_by_numbers({wish: place for place, wish in enumerate(ranking)}, row)


def floor_numbers(floors):
    return {wish: number for number, floor in enumerate(floors) for wish in floor}


def floors_fit(floors, row):
    return fits_by_numbers(floor_numbers(floors), row)


def rankings_that_fit(count, rows):
    return [ranking for ranking in every_ranking(count) if all(ranking_fits(ranking, row) for row in rows)]


def every_floors(count):
    """All floors of a count: each wish gets a number, and no number is left out."""
    told = []
    for numbers in itertools.product(range(count), repeat=count):
        if set(numbers) == set(range(max(numbers) + 1)):
            floors = [[] for number in range(max(numbers) + 1)]
            for wish, number in enumerate(numbers):
                floors[number].append(wish)
            told.append(floors)
    return told


def plainly_fused(count, rows):
    signs = ["e"] * count
    for wish in range(count):
        if any(row[wish] == "W" for row in rows):
            signs[wish] = "W"
        if any(row[wish] == "L" for row in rows):
            signs[wish] = "L"
    return "".join(signs)


def plainly_clash(count, rows):
    """Point 11: the fused row has some L and no W."""
    row = plainly_fused(count, rows)
    return "L" in row and "W" not in row


def no_better(one, two):
    """Point 14: L than anything, e than e and W, W than W."""
    allowed = {"L": "LeW", "e": "eW", "W": "W"}
    return all(right in allowed[left] for left, right in zip(one, two, strict=True))


def plainly_follows(count, rows, row):
    return all(ranking_fits(ranking, row) for ranking in rankings_that_fit(count, rows))


def plain_key(ranking, marks):
    """Point 7 in other words: of two marks those beat the others that are less, read in the ranking's order."""
    return [marks[wish] for wish in ranking]


def plain_bests(ranking, word):
    least = min(plain_key(ranking, marks) for marks in word)
    return [number for number, marks in enumerate(word) if plain_key(ranking, marks) == least]


def plain_row(one, two):
    return "".join("W" if mine < other else "L" if mine > other else "e" for mine, other in zip(one, two, strict=True))


def mixed_numbers(many, below, seed):
    """Some whole numbers from 0 on, in no plain order, the same at each run."""
    numbers = []
    state = seed * 7919 + 17
    for place in range(many):
        state = (state * 1103515245 + 12345) % 2 ** 31
        numbers.append(state // 65536 % below)
    return numbers


def mixed_rows(count, many, seed):
    """Some rows of all kinds, the same at each run."""
    signs = "".join("WeeL"[number] for number in mixed_numbers(count * many, 4, seed))
    return [signs[count * place:count * (place + 1)] for place in range(many)]


def mixed_word(count, many, below, seed):
    numbers = mixed_numbers(count * many, below, seed)
    return tuple(tuple(numbers[count * place:count * (place + 1)]) for place in range(many))


def mixed_rows_that_fit(ranking, many, seed):
    """Some of the mixed rows, all of which the ranking fits."""
    rows = [row for row in mixed_rows(len(ranking), 8 * many, seed) if ranking_fits(ranking, row)]
    return rows[:many]


def assert_rising_places(case, places, rows):
    case.assertIs(type(places), list)
    case.assertTrue(all(type(place) is int and 0 <= place < len(rows) for place in places), places)
    case.assertEqual(places, sorted(set(places)))


def assert_clashing_places(case, count, rows, places):
    assert_rising_places(case, places, rows)
    case.assertTrue(plainly_clash(count, [rows[place] for place in places]), (rows, places))


def assert_tuple_of_numbers(case, told):
    case.assertIs(type(told), tuple)
    case.assertTrue(all(type(number) is int for number in told), told)


def assert_pair(case, told):
    case.assertIs(type(told), tuple)
    case.assertEqual(len(told), 2)
    case.assertIs(type(told[0]), bool)
