"""Names, and cuts as they are drawn: their rows, letters and meetings."""

from digbook.errors import NoCut

LETTERS = "abcdefghijklmnopqrstuvwxyz"
AIR = "."
LONGEST_NAME = 8
MOST_ROWS = 40
MOST_SIGNS = 40


def is_name(thing):
    if not isinstance(thing, str):
        return False
    return 1 <= len(thing) <= LONGEST_NAME and all([sign in LETTERS for sign in thing])


def rows_of(text):
    if not isinstance(text, str):
        raise NoCut(0)
    # Not splitlines: a row without signs behind a last line feed is a row too.
    rows = text.split("\n")
    for number, row in enumerate(rows):
        if number == MOST_ROWS or not is_row(row):
            raise NoCut(number)
        if number > 0 and not lies_beneath(row, rows[number - 1]):
            raise NoCut(number)
    if len(letters_in(rows)) == 0:
        raise NoCut(0)
    return rows


def is_row(row):
    return 1 <= len(row) <= MOST_SIGNS and all([sign == AIR or sign in LETTERS for sign in row])


# The row right above is enough to look at: where some row higher up has a
# letter, that one has a letter too, or it was refused itself.
def lies_beneath(row, above):
    if len(row) != len(above):
        return False
    return all([low != AIR or high == AIR for high, low in zip(above, row)])


def letters_in(rows):
    return sorted(set([sign for sign in "".join(rows) if sign != AIR]))


def letters(text):
    return letters_in(rows_of(text))


def meetings(text):
    rows = rows_of(text)
    pairs = []
    for above, row in zip(rows, rows[1:]):
        pairs.extend(meetings_between(above, row))
    return sorted(set(pairs))


def meetings_between(above, row):
    return [(high, low) for high, low in zip(above, row) if high != AIR and high != low]


def turned(text):
    return "\n".join(["".join(reversed(row)) for row in rows_of(text)])


def wider(text, times):
    rows = rows_of(text)
    if len(rows[0]) * times > MOST_SIGNS:
        raise NoCut(0)
    return "\n".join([row_drawn_wider(row, times) for row in rows])


def row_drawn_wider(row, times):
    return "".join([sign * times for sign in row])
