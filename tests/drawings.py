"""Cuts for the tests, drawn by fixed seeds, and a plain reading of them."""

import random


def drawn_cut(seed, most_rows=8, most_signs=8, kinds="abcd"):
    """A cut: each place has some air at the top, then letters down to the last row."""
    chance = random.Random(seed)
    height = chance.randint(1, most_rows)
    length = chance.randint(1, most_signs)
    columns = []
    for place in range(length):
        air = chance.randint(0, height - (1 if place == 0 else 0))
        columns.append("." * air + "".join(chance.choice(kinds) for _ in range(height - air)))
    return "\n".join("".join(signs) for signs in zip(*columns))


def is_right_above(text, upper, lower):
    """Whether somewhere in the drawing upper stands right above lower, sign by sign."""
    length = text.find("\n") if "\n" in text else len(text)
    for place in range(len(text) - length - 1):
        if text[place] == upper and text[place + length + 1] == lower:
            return True
    return False


def met_pairs(text):
    """All met pairs of unlike letters, each pair of letters tried by itself."""
    signs = sorted(set(text) - set(".\n"))
    return [(a, b) for a in signs for b in signs if a != b and is_right_above(text, a, b)]
