"""A desk that is told rows of text, and answers each with a text."""

from digbook.book import Book, state_of
from digbook.chains import standing
from digbook.deposits import deposit_of, deposits
from digbook.direct import direct_pairs, levels
from digbook.errors import NoDeed, NoLayer, NoRow
from digbook.ground import Ground, check_cuts
from digbook.orders import order
from digbook.rings import ring
from digbook.rows import fewest_rows
from digbook.wrong import fewest_wrong
from digbook.years import bounds

FIGURES = "0123456789"
MOST_FIGURES = 4

# What the words of a row behind its first one stand for.
FORMS = {
    "cut": ("name", "text"),
    "later": ("layer", "layer"),
    "same": ("layer", "layer"),
    "since": ("layer", "year"),
    "by": ("layer", "year"),
    "back": ("number",),
    "undo": (),
    "state": (),
    "sayings": (),
    "order": (),
    "stand": ("layer", "layer"),
    "deposit": ("layer",),
    "direct": (),
    "level": ("layer",),
    "rows": (),
    "years": ("layer",),
    "wrong": (),
    "ring": (),
}


def words_of(row):
    if not isinstance(row, str) or "\n" in row:
        raise NoRow("no text of one line")
    words = row.split(" ")
    if words[0] not in FORMS or not keeps_form(words[1:], FORMS[words[0]]):
        raise NoRow("no row that the desk knows")
    return words


def keeps_form(words, form):
    return len(words) == len(form) and all([can_stand_for(kind, word) for kind, word in zip(form, words)])


# What is no name, no cut and no layer is refused later and otherwise.
def can_stand_for(kind, word):
    if kind == "number":
        return is_number(word)
    if kind == "year":
        return is_number(word) or is_number_below_nought(word)
    return True


def is_number(word):
    if not 1 <= len(word) <= MOST_FIGURES or not all([sign in FIGURES for sign in word]):
        return False
    return word == "0" or word[0] != "0"


def is_number_below_nought(word):
    return word.startswith("-") and word != "-0" and is_number(word[1:])


def check_layers(ground, words):
    layers = ground.layers()
    for kind, word in zip(FORMS[words[0]], words[1:]):
        if kind == "layer" and word not in layers:
            raise NoLayer(f"no layer {word}")


def do_deed(book, words):
    if words[0] == "undo":
        book.undo()
    elif words[0] == "back":
        book.take_back(int(words[1]))
    else:
        book.put(saying_of(words))


def saying_of(words):
    if FORMS[words[0]][1] == "year":
        return (words[0], words[1], int(words[2]))
    return (words[0], words[1], words[2])


def tell_state(ground, layers):
    return state_of(ground)


def tell_sayings(ground, layers):
    return str(len(ground.sayings()))


def tell_order(ground, layers):
    return " ".join(order(ground))


def tell_stand(ground, layers):
    return standing(ground, layers[0], layers[1])


def tell_deposit(ground, layers):
    return " ".join([deposit for deposit in deposits(ground) if layers[0] in deposit][0])


def tell_direct(ground, layers):
    pairs = direct_pairs(ground)
    if len(pairs) == 0:
        return "none"
    return " ".join([f"{later}>{earlier}" for later, earlier in pairs])


def tell_level(ground, layers):
    return str(levels(ground)[deposit_of(ground, layers[0])])


def tell_rows(ground, layers):
    return str(len(fewest_rows(ground)))


def tell_years(ground, layers):
    return " ".join([str(year) for year in bounds(ground)[deposit_of(ground, layers[0])]])


def tell_wrong(ground, layers):
    return str(len(fewest_wrong(ground)[0]))


def tell_ring(ground, layers):
    found = ring(ground)
    return "none" if found is None else str(len(found))


ANSWERS = {
    "state": tell_state,
    "sayings": tell_sayings,
    "order": tell_order,
    "stand": tell_stand,
    "deposit": tell_deposit,
    "direct": tell_direct,
    "level": tell_level,
    "rows": tell_rows,
    "years": tell_years,
    "wrong": tell_wrong,
    "ring": tell_ring,
}


class Desk:
    def __init__(self):
        self.told_cuts = []
        self.book = None

    def say(self, row):
        words = words_of(row)
        if words[0] == "cut":
            self.add_cut(words[1], words[2].replace("/", "\n"))
            return "ok"
        if self.book is None:
            # Where no cut was told, no ground can be made, and so there is no book either.
            self.book = Book(Ground(self.told_cuts, []))
        check_layers(self.book.ground(), words)
        if words[0] not in ANSWERS:
            do_deed(self.book, words)
            return "ok"
        tell = ANSWERS[words[0]]
        return tell(self.book.ground(), words[1:])

    def add_cut(self, name, text):
        if self.book is not None:
            raise NoDeed("the book has begun, no cut is added to it")
        cuts = self.told_cuts + [(name, text)]
        check_cuts(cuts)
        self.told_cuts = cuts
