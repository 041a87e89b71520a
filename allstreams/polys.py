"""Polys: lists of ratios, the parts of 1, x, x * x and so on."""

from allstreams.checks import need_whole
from allstreams.errors import BadValue, NoDivisor
from allstreams.factors import common_factor
from allstreams.marks import Mark, looks_after
from allstreams.powers import powered
from allstreams.ratios import Ratio, as_ratio, is_ratio, ratio_list
from allstreams.staircase import staircase
from allstreams.wholes import divided_parts, multiplied, whole_parts

LETTERS = "abcdefghijklmnopqrstuvwxyz"


class Poly:
    """A list of parts without a 0 at the end."""

    def __init__(self, parts):
        ratios = ratio_list(parts)
        many = len(ratios)
        while many and ratios[many - 1].top == 0:
            many -= 1
        self.parts = tuple(ratios[:many])
        self.mark = Mark(("Ratio",))

    def __eq__(self, other):
        return isinstance(other, Poly) and self.parts == other.parts

    def __add__(self, other):
        if looks_after(other, "Poly"):
            return NotImplemented
        left, right = self.parts, as_poly(other).parts
        sums = [one + two for one, two in zip(left, right)]
        return Poly([*sums, *left[len(right):], *right[len(left):]])

    def __radd__(self, other):
        return as_poly(other) + self

    def __sub__(self, other):
        if looks_after(other, "Poly"):
            return NotImplemented
        return self + -as_poly(other)

    def __rsub__(self, other):
        return as_poly(other) - self

    def __mul__(self, other):
        if looks_after(other, "Poly"):
            return NotImplemented
        left, left_bottom = whole_parts(self.parts)
        right, right_bottom = whole_parts(as_poly(other).parts)
        return poly_by(multiplied(left, right), left_bottom * right_bottom)

    def __rmul__(self, other):
        return as_poly(other) * self

    def __neg__(self):
        return Poly([-part for part in self.parts])

    def power(self, exponent):
        need_whole(exponent)
        return powered(self, exponent, Poly([1]))

    def degree(self):
        return len(self.parts) - 1

    def low(self):
        for number, part in enumerate(self.parts):
            if part.top != 0:
                return number
        return -1

    def part(self, number):
        need_whole(number)
        return self.parts[number] if number < len(self.parts) else Ratio(0)

    def worth_at(self, ratio):
        at = as_ratio(ratio)
        parts, bottom = whole_parts(self.parts)
        worth, power = 0, 1
        for part in parts[::-1]:
            worth = worth * at.top + part * power
            power = power * at.bottom
        # One power of the bottom more than the degree tells.
        return Ratio(worth * at.bottom, bottom * power)

    def raised(self, many):
        need_whole(many)
        return Poly([0] * many + list(self.parts))

    def monic(self):
        if not self.parts:
            raise NoDivisor()
        return self * self.parts[-1].inverse()

    def turned(self):
        return Poly(self.parts[::-1])

    def slope(self):
        return Poly([part * number for number, part in enumerate(self.parts)][1:])

    def divided(self, other):
        need_poly(other)
        if not other.parts:
            raise NoDivisor()
        return quotient_and_rest(self, other)

    def common(self, other):
        need_poly(other)
        return factor_of(self, other)


def poly_by(parts, bottom):
    """The Poly of integers, each by the bottom."""
    return Poly([Ratio(part, bottom) for part in parts])


def quotient_and_rest(one, other):
    left, left_bottom = whole_parts(one.parts)
    right, right_bottom = whole_parts(other.parts)
    quotient, rest, scale = divided_parts(left, right)
    bottom = scale * left_bottom
    return poly_by([part * right_bottom for part in quotient], bottom), poly_by(rest, bottom)


def factor_of(one, other):
    """The common factor."""
    left, _ = whole_parts(one.parts)
    right, _ = whole_parts(other.parts)
    factor = common_factor(left, right)
    return poly_by(factor, factor[-1]) if factor else Poly([])


def is_polylike(value):
    """Whether the value is a Poly, or a Ratio or an integer, which may stand for one."""
    return isinstance(value, Poly) or is_ratio(value)


def as_poly(value):
    if isinstance(value, Poly):
        return value
    return Poly([as_ratio(value)])


def need_poly(value):
    if not isinstance(value, Poly):
        raise BadValue(value)


def common_paper(one, other):
    """The common factor and two Polys; first * one + second * other is it."""
    need_poly(one)
    need_poly(other)
    left, left_bottom = whole_parts(one.parts)
    right, right_bottom = whole_parts(other.parts)
    # The first row of the staircase of a column has the common factor and the multipliers.
    _, (factor, first, second), bottom = staircase([[left], [right]], 1)[0]
    return poly_by(factor, bottom), poly_by(first, bottom) * left_bottom, poly_by(second, bottom) * right_bottom


def poly_text(poly, letter):
    need_poly(poly)
    if not isinstance(letter, str) or len(letter) != 1 or letter not in LETTERS:
        raise BadValue(letter)
    text = ""
    for number, part in enumerate(poly.parts):
        if part.top != 0:
            joint = " + " if part.top > 0 else " - "
            first = "" if part.top > 0 else "-"
            text = text + (joint if text else first) + term_text(part.size(), number, letter)
    return text or "0"


def term_text(size, number, letter):
    """A term without its sign."""
    if number == 0:
        return str(size)
    power = letter if number == 1 else f"{letter}^{number}"
    return power if size == Ratio(1) else f"{size}*{power}"
