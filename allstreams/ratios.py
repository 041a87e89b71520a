"""Exact fractions of two integers."""

from math import gcd

from allstreams.checks import is_integer, need_integer, need_list
from allstreams.errors import BadValue, NoDivisor
from allstreams.marks import looks_after
from allstreams.powers import powered

GROUP = 10 ** 60


class Ratio:
    """A fraction in lowest terms, its bottom from 1 on."""

    def __init__(self, top, bottom=1):
        # Written out: most of the time of the package goes by here.
        if not isinstance(top, int) or isinstance(top, bool):
            raise BadValue(top)
        if not isinstance(bottom, int) or isinstance(bottom, bool):
            raise BadValue(bottom)
        shared = gcd(top, bottom)
        if bottom < 0:
            shared = -shared
        if shared == 0 or bottom == 0:
            raise NoDivisor()
        if shared == 1:
            self.top = top
            self.bottom = bottom
        else:
            self.top = top // shared
            self.bottom = bottom // shared

    def __eq__(self, other):
        return isinstance(other, Ratio) and self.top == other.top and self.bottom == other.bottom

    def __add__(self, other):
        right = other if isinstance(other, Ratio) else operand(other)
        if right is None:
            return NotImplemented
        return Ratio(self.top * right.bottom + right.top * self.bottom, self.bottom * right.bottom)

    def __radd__(self, other):
        return as_ratio(other) + self

    def __sub__(self, other):
        right = other if isinstance(other, Ratio) else operand(other)
        if right is None:
            return NotImplemented
        return Ratio(self.top * right.bottom - right.top * self.bottom, self.bottom * right.bottom)

    def __rsub__(self, other):
        return as_ratio(other) - self

    def __mul__(self, other):
        right = other if isinstance(other, Ratio) else operand(other)
        if right is None:
            return NotImplemented
        return Ratio(self.top * right.top, self.bottom * right.bottom)

    def __rmul__(self, other):
        return as_ratio(other) * self

    def __neg__(self):
        return Ratio(-self.top, self.bottom)

    def __str__(self):
        top = whole_text(self.top)
        if self.bottom == 1:
            return f"{top}"
        return f"{top}/{whole_text(self.bottom)}"

    def inverse(self):
        return Ratio(self.bottom, self.top)

    def power(self, exponent):
        need_integer(exponent)
        base = self.inverse() if exponent < 0 else self
        many = abs(exponent)
        return Ratio(powered(base.top, many, 1), powered(base.bottom, many, 1))

    def sign(self):
        return (self.top > 0) - (self.top < 0)

    def size(self):
        return Ratio(abs(self.top), self.bottom)

    def floor(self):
        return self.top // self.bottom

    def compare(self, other):
        right = as_ratio(other)
        return (self - right).sign()


def is_ratio(value):
    """Whether the value is a Ratio or an integer, which may stand for one."""
    return isinstance(value, Ratio) or is_integer(value)


def as_ratio(value):
    return value if isinstance(value, Ratio) else Ratio(value)


def operand(other):
    """What stands right of a sign and is no Ratio as a Ratio; None if it looks after that itself."""
    if looks_after(other, "Ratio"):
        return None
    return as_ratio(other)


def ratio_list(values):
    """A new list of the Ratios of a list of ratios."""
    return [value if isinstance(value, Ratio) else Ratio(value) for value in need_list(values)]


def whole_text(number):
    """The digits of an integer, in groups: Python writes only 4,300 of them at once."""
    rest = abs(number)
    groups = []
    while rest >= GROUP:
        groups.append(str(rest % GROUP).zfill(60))
        rest = rest // GROUP
    groups.append(str(rest))
    sign = "-" if number < 0 else ""
    return sign + "".join(groups[::-1])
