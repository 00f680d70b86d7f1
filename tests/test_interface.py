"""The interface: every name is there, in its module, with its arguments."""

import importlib
import inspect
import unittest

FUNCTIONS = """
    cuts: is_name(thing) rows_of(text) letters(text) meetings(text) turned(text) wider(text,times)
    deposits: deposits(ground) deposit_of(ground,layer) links(ground)
    rings: ring(ground)
    orders: order(ground) is_order(ground,some)
    chains: chain(ground,one,other) standing(ground,one,other)
    opens: two_orders(ground,one,other)
    direct: direct_pairs(ground) levels(ground)
    rows: fewest_rows(ground) widest(ground)
    years: bounds(ground) clash(ground) why_least(ground,layer) why_greatest(ground,layer)
    wrong: fewest_wrong(ground)
"""
CLASSES = """
    ground.Ground: __init__(cuts,sayings) cuts() sayings() layers() ties()
    book.Book: __init__(ground) put(saying) take_back(number) undo() ground() state()
    desk.Desk: __init__() say(row)
    errors.NoCut: __init__(row)
    errors.NoGround: __init__(part,number)
    errors.Torn: __init__(ring)
"""


def asked_in(table):
    """Of each line the place and, one by one, the name and its arguments."""
    for line in table.strip().splitlines():
        place, _, forms = line.strip().partition(": ")
        for form in forms.split(" "):
            name, _, arguments = form.rstrip(")").partition("(")
            yield place, name, [word for word in arguments.split(",") if word]


class Interface(unittest.TestCase):
    def test_functions(self):
        for module, name, arguments in asked_in(FUNCTIONS):
            tell = getattr(importlib.import_module("digbook." + module), name)
            self.assertEqual(list(inspect.signature(tell).parameters), arguments, name)

    def test_classes(self):
        for place, name, arguments in asked_in(CLASSES):
            module, _, kind = place.partition(".")
            method = getattr(getattr(importlib.import_module("digbook." + module), kind), name)
            self.assertEqual(list(inspect.signature(method).parameters), ["self"] + arguments, (place, name))


if __name__ == "__main__":
    unittest.main()
