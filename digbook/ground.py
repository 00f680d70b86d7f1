"""The ground: cuts and sayings that were looked through, its layers and ties."""

from digbook.cuts import is_name, letters, meetings, rows_of
from digbook.errors import NoCut, NoGround

MOST_CUTS = 8
MOST_SAYINGS = 60
FIRST_YEAR = -9999
LAST_YEAR = 9999
LAYER_WORDS = ("later", "same")
YEAR_WORDS = ("since", "by")


class Ground:
    def __init__(self, cuts, sayings):
        check_cuts(cuts)
        layers = layers_of(cuts)
        check_sayings(sayings, layers)
        # Copies, so that what the asker does with his lists later is not seen here.
        self.kept_cuts = list(cuts)
        self.kept_sayings = list(sayings)
        self.kept_layers = layers
        self.kept_ties = sorted(ties_of_cuts(cuts) + ties_of_sayings(sayings))

    def cuts(self):
        return list(self.kept_cuts)

    def sayings(self):
        return list(self.kept_sayings)

    def layers(self):
        return list(self.kept_layers)

    def ties(self):
        return list(self.kept_ties)


def check_cuts(cuts):
    if not isinstance(cuts, list) or len(cuts) == 0:
        raise NoGround("cuts", None)
    names = {}
    for number, thing in enumerate(cuts):
        if number == MOST_CUTS or not is_named_cut(thing) or thing[0] in names:
            raise NoGround("cuts", number)
        names[thing[0]] = True


def is_named_cut(thing):
    return isinstance(thing, tuple) and len(thing) == 2 and is_name(thing[0]) and is_cut(thing[1])


def is_cut(thing):
    try:
        rows_of(thing)
    except NoCut:
        return False
    return True


def check_sayings(sayings, layers):
    if not isinstance(sayings, list):
        raise NoGround("sayings", None)
    for number, thing in enumerate(sayings):
        if number == MOST_SAYINGS or not is_saying(thing, layers):
            raise NoGround("sayings", number)


def is_saying(thing, layers):
    if not isinstance(thing, tuple) or len(thing) != 3:
        return False
    if is_text_among(thing[0], LAYER_WORDS):
        return is_text_among(thing[1], layers) and is_text_among(thing[2], layers) and thing[1] != thing[2]
    if is_text_among(thing[0], YEAR_WORDS):
        return is_text_among(thing[1], layers) and is_year(thing[2])
    return False


# Things of any kind come here, so nothing is asked of them before they are texts.
def is_text_among(thing, texts):
    return isinstance(thing, str) and thing in texts


def is_year(thing):
    if not isinstance(thing, int) or isinstance(thing, bool):
        return False
    return FIRST_YEAR <= thing <= LAST_YEAR


def layer_name(name, letter):
    return f"{name}.{letter}"


def layers_of(cuts):
    layers = []
    for name, text in cuts:
        layers.extend([layer_name(name, letter) for letter in letters(text)])
    return sorted(layers)


def ties_of_cuts(cuts):
    ties = []
    for name, text in cuts:
        for upper, lower in meetings(text):
            ties.append((layer_name(name, upper), layer_name(name, lower), name))
    return ties


def ties_of_sayings(sayings):
    ties = []
    for number, saying in enumerate(sayings):
        if saying[0] == "later":
            ties.append((saying[1], saying[2], f"#{number}"))
    return ties
