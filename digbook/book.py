"""A running book: sayings put and taken back one by one, and how it all stands."""

from digbook.errors import NoDeed, NoSaying
from digbook.ground import Ground
from digbook.rings import ring
from digbook.years import clash


class Book:
    def __init__(self, ground):
        self.current = ground
        # The sayings ahead of each deed that is not undone; grounds would take much more room.
        self.past = []

    def put(self, saying):
        self.go_on_with(self.current.sayings() + [saying])

    def take_back(self, number):
        sayings = self.current.sayings()
        if not is_place_in(sayings, number):
            raise NoSaying("no saying has this number")
        self.go_on_with(sayings[:number] + sayings[number + 1:])

    # The new ground comes first: where it is refused, nothing has been done.
    def go_on_with(self, sayings):
        changed = Ground(self.current.cuts(), sayings)
        self.past.append(self.current.sayings())
        self.current = changed

    def undo(self):
        if len(self.past) == 0:
            raise NoDeed("no deed is left to undo")
        self.current = Ground(self.current.cuts(), self.past.pop())

    def ground(self):
        return self.current

    def state(self):
        return state_of(self.current)


def is_place_in(sayings, number):
    if not isinstance(number, int) or isinstance(number, bool):
        return False
    return 0 <= number < len(sayings)


def state_of(ground):
    if ring(ground) is not None:
        return "torn"
    if clash(ground) is not None:
        return "clash"
    return "fits"
