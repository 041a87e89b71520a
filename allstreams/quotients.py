"""Quotients of polys in z, without a pole at 0."""

from math import gcd

from allstreams.checks import need_whole
from allstreams.errors import AtNought, BadValue, NoDivisor
from allstreams.marks import Mark
from allstreams.polys import as_poly, factor_of, is_polylike, poly_text, quotient_and_rest
from allstreams.ratios import Ratio
from allstreams.wholes import whole_parts


class Quotient:
    """A top by a bottom in lowest terms; part 0 of the bottom is 1."""

    def __init__(self, top, bottom):
        upper, lower = as_poly(top), as_poly(bottom)
        if not lower.parts:
            raise NoDivisor()
        factor = factor_of(upper, lower)
        if len(factor.parts) > 1:
            upper, lower = quotient_and_rest(upper, factor)[0], quotient_and_rest(lower, factor)[0]
        start = lower.parts[0]
        if start.top == 0:
            raise AtNought()
        inverse = Ratio(start.bottom, start.top)
        self.top = upper * inverse
        self.bottom = lower * inverse
        self.mark = Mark(("Ratio", "Poly"))

    def __eq__(self, other):
        return isinstance(other, Quotient) and self.top == other.top and self.bottom == other.bottom

    def __add__(self, other):
        right = as_quotient(other)
        if self.bottom == right.bottom:
            return Quotient(self.top + right.top, self.bottom)
        return Quotient(self.top * right.bottom + right.top * self.bottom, self.bottom * right.bottom)

    def __radd__(self, other):
        return as_quotient(other) + self

    def __sub__(self, other):
        return self + -as_quotient(other)

    def __rsub__(self, other):
        return as_quotient(other) - self

    def __mul__(self, other):
        right = as_quotient(other)
        return Quotient(self.top * right.top, self.bottom * right.bottom)

    def __rmul__(self, other):
        return as_quotient(other) * self

    def __neg__(self):
        return Quotient(-self.top, self.bottom)

    def power(self, exponent):
        return Quotient(self.top.power(exponent), self.bottom.power(exponent))

    def inverse(self):
        return Quotient(self.bottom, self.top)

    def part(self, number):
        need_whole(number)
        return series(self.top, self.bottom, number, number + 1)[0]

    def first(self, many):
        need_whole(many)
        return series(self.top, self.bottom, 0, many)

    def low(self):
        return self.top.low()


def series(top, bottom, start, many):
    """The parts of a quotient with the numbers from start on and below many; part 0 of the bottom is 1.

    Where the bottom is a poly in a power of its letter, parts whose numbers leave the same by the exponent go by
    themselves.
    """
    step = shared_exponent(bottom, 0) or 1
    tops, below = whole_parts(top.parts)
    loop, scale = whole_parts(bottom.parts[::step])
    rests = [number % step for number in range(start, min(many, start + step))]
    lanes = {rest: lane_series(tops[rest::step], loop, scale, (many - rest + step - 1) // step) for rest in rests}
    told = []
    for number in range(start, many):
        whole, power = lanes[number % step][number // step]
        told.append(Ratio(whole, below * power))
    return told


def shared_exponent(poly, many):
    """The greatest number that divides many and the places of all parts other than 0."""
    shared = many
    for place, part in enumerate(poly.parts):
        if part.top != 0:
            shared = gcd(shared, place)
    return shared


def lane_series(tops, loop, scale, many):
    """The first parts of a quotient of integers, the bottom over the scale: pairs of a top and a bottom.

    Part number k is told over the scale to the power k, so that no fraction is reduced on the way.
    """
    powers = powers_of(scale, max(many, len(loop)))
    weights = [(place, part * powers[place - 1]) for place, part in enumerate(loop) if place > 0 and part != 0]
    wholes = []
    for number in range(many):
        whole = tops[number] * powers[number] if number < len(tops) else 0
        for place, weight in weights:
            if place <= number:
                whole = whole - weight * wholes[number - place]
        wholes.append(whole)
    return list(zip(wholes, powers))


def powers_of(base, many):
    """So many powers, from the power 0 on."""
    powers = []
    power = 1
    for _ in range(many):
        powers.append(power)
        power = power * base
    return powers


def is_quotientlike(value):
    """Whether the value is a Quotient, or what may stand for one with the bottom 1."""
    return isinstance(value, Quotient) or is_polylike(value)


def as_quotient(value):
    if isinstance(value, Quotient):
        return value
    return Quotient(as_poly(value), 1)


def need_quotient(value):
    if not isinstance(value, Quotient):
        raise BadValue(value)


def first_unlike(one, other):
    need_quotient(one)
    need_quotient(other)
    # Part 0 of the bottoms is 1: so this poly begins where the difference of the two does.
    place = (one.top * other.bottom - other.top * one.bottom).low()
    return None if place < 0 else place


def quotient_text(quotient):
    need_quotient(quotient)
    top = poly_text(quotient.top, "z")
    if quotient.bottom.degree() == 0:
        return top
    terms = [part for part in quotient.top.parts if part.top != 0]
    if len(terms) > 1:
        top = f"({top})"
    bottom = poly_text(quotient.bottom, "z")
    return f"{top}/({bottom})"
