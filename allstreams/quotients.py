"""Quotients of polys in z, without a pole at 0."""

from allstreams.checks import need_whole
from allstreams.errors import AtNought, BadValue, NoDivisor
from allstreams.marks import Mark
from allstreams.polys import as_poly, factor_of, is_polylike, poly_text, quotient_and_rest
from allstreams.ratios import Ratio
from allstreams.wholes import whole_parts


class Quotient:
    """A top by a bottom in lowest terms; part 0 of the bottom is 1."""

    def __init__(self, top, bottom):
        upper, lower = as_poly(top), as_poly(bottom)
        if not lower.parts:
            raise NoDivisor()
        factor = factor_of(upper, lower)
        if len(factor.parts) > 1:
            upper, lower = quotient_and_rest(upper, factor)[0], quotient_and_rest(lower, factor)[0]
        start = lower.parts[0]
        if start.top == 0:
            raise AtNought()
        inverse = Ratio(start.bottom, start.top)
        self.top = upper * inverse
        self.bottom = lower * inverse
        self.mark = Mark(("Ratio", "Poly"))

    def __eq__(self, other):
        return isinstance(other, Quotient) and self.top == other.top and self.bottom == other.bottom

    def __add__(self, other):
        right = as_quotient(other)
        if self.bottom == right.bottom:
            return Quotient(self.top + right.top, self.bottom)
        return Quotient(self.top * right.bottom + right.top * self.bottom, self.bottom * right.bottom)

    def __radd__(self, other):
        return as_quotient(other) + self

    def __sub__(self, other):
        return self + -as_quotient(other)

    def __rsub__(self, other):
        return as_quotient(other) - self

    def __mul__(self, other):
        right = as_quotient(other)
        return Quotient(self.top * right.top, self.bottom * right.bottom)

    def __rmul__(self, other):
        return as_quotient(other) * self

    def __neg__(self):
        return Quotient(-self.top, self.bottom)

    def power(self, exponent):
        return Quotient(self.top.power(exponent), self.bottom.power(exponent))

    def inverse(self):
        return Quotient(self.bottom, self.top)

    def part(self, number):
        need_whole(number)
        return self.first(number + 1)[number]

    def first(self, many):
        need_whole(many)
        tops, bottom = whole_parts(self.top.parts)
        loop, scale = whole_parts(self.bottom.parts)
        return series(tops, bottom, loop[1:], scale, many)

    def low(self):
        return self.top.low()


def series(tops, bottom, loop, scale, many):
    """The first parts of a quotient whose bottom is 1 and, behind it, the parts of loop by the scale.

    Part number k is told over bottom * scale to the power k, so that no fraction is reduced on the way.
    """
    weights = []
    power = 1
    for part in loop:
        weights.append(part * power)
        power = power * scale
    wholes, parts = [], []
    power = 1
    for number in range(many):
        whole = tops[number] * power if number < len(tops) else 0
        for weight, earlier in zip(weights, wholes[::-1]):
            whole -= weight * earlier
        wholes.append(whole)
        parts.append(Ratio(whole, bottom * power))
        power = power * scale
    return parts


def is_quotientlike(value):
    """Whether the value is a Quotient, or what may stand for one with the bottom 1."""
    return isinstance(value, Quotient) or is_polylike(value)


def as_quotient(value):
    if isinstance(value, Quotient):
        return value
    return Quotient(as_poly(value), 1)


def need_quotient(value):
    if not isinstance(value, Quotient):
        raise BadValue(value)


def first_unlike(one, other):
    need_quotient(one)
    need_quotient(other)
    # Part 0 of the bottoms is 1: so this poly begins where the difference of the two does.
    place = (one.top * other.bottom - other.top * one.bottom).low()
    return None if place < 0 else place


def quotient_text(quotient):
    need_quotient(quotient)
    top = poly_text(quotient.top, "z")
    if quotient.bottom.degree() == 0:
        return top
    terms = [part for part in quotient.top.parts if part.top != 0]
    if len(terms) > 1:
        top = f"({top})"
    bottom = poly_text(quotient.bottom, "z")
    return f"{top}/({bottom})"
