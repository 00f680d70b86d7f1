"""The refusals of the program, all of them under DigError."""


class DigError(ValueError):
    pass


class NoCut(DigError):
    def __init__(self, row):
        DigError.__init__(self, f"no cut: row {row} is not so")
        self.row = row


class NoGround(DigError):
    def __init__(self, part, number):
        DigError.__init__(self, f"no ground: {part}, number {number}")
        self.part = part
        self.number = number


class Torn(DigError):
    def __init__(self, ring):
        DigError.__init__(self, f"torn by the ring {ring!r}")
        # A copy, for what is handed in stays the asker's own.
        self.ring = list(ring)


class NoSaying(DigError):
    pass


class NoDeed(DigError):
    pass


class NoRow(DigError):
    pass


class NoLayer(DigError):
    pass
