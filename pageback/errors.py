"""The refusals of the program, one class for each."""


class PageError(ValueError):
    pass


class OutOfBook(PageError):
    def __init__(self, path, first, last):
        self.path = path
        self.first = first
        self.last = last


class SentHere(PageError):
    def __init__(self, path):
        self.path = path


class Both(PageError):
    def __init__(self, path):
        self.path = path


class TwoWays(PageError):
    def __init__(self, path):
        self.path = path


class Ring(PageError):
    def __init__(self, ring):
        # Python keeps by itself what an error is made of: it gets a copy, so that the list handed in is not kept.
        PageError.__init__(self, list(ring))
        self.ring = list(ring)


class Nowhere(PageError):
    def __init__(self, path, goal):
        self.path = path
        self.goal = goal


class NoRow(PageError):
    def __init__(self, at):
        self.at = at


class NoMark(PageError):
    pass


class NoText(PageError):
    def __init__(self, row):
        self.row = row
