"""Floors: each wish as high as the rows let it, or rows that clash."""


# The wishes that need none ahead of them any more.
def free_wishes(wishes, rows):
    return [wish for wish in wishes if not any([row[wish] == "L" for row in rows])]


def has_win(row, wishes):
    return any([row[wish] == "W" for wish in wishes])


def floors(count, rows):
    wishes = list(range(count))
    # A row without L asks for nothing: it would only make a told clash longer.
    places = [place for place, row in enumerate(rows) if "L" in row]
    told = []
    while wishes:
        floor = free_wishes(wishes, [rows[place] for place in places])
        if not floor:
            # Each wish that is left has L in one of these rows, and at no other wish has any of them W.
            return (False, places)
        told.append(floor)
        wishes = [wish for wish in wishes if wish not in floor]
        # All wishes left come to stand behind this floor, so a row with W in it fits from here on.
        places = [place for place in places if not has_win(rows[place], floor)]
    return (True, told)
