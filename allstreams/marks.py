"""Marks by which classes know each other's objects where their files cannot import from each other."""


class Mark:
    """What each object of a class bears that looks itself after operands left of it; below tells their classes.

    A class of the same name elsewhere does not make such objects, so none of its objects is taken for one.
    """

    def __init__(self, below):
        self.below = below

    def __eq__(self, other):
        return isinstance(other, Mark) and self.below == other.below


def looks_after(value, below):
    """Whether the value looks itself after an object of the class below that stands left of it."""
    mark = getattr(value, "mark", None)
    return isinstance(mark, Mark) and below in mark.below
