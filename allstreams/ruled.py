"""Ruled streams: told by a rule and their first items, held as the quotients whose parts are their items."""

from allstreams.checks import is_within, need_list, need_within
from allstreams.errors import BadValue
from allstreams.lanes import LEAST, MOST, need_many, need_rest
from allstreams.marks import Mark
from allstreams.polys import Poly, need_poly
from allstreams.quotientmatrices import common_multiple, top_over
from allstreams.quotients import Quotient, first_unlike, need_quotient
from allstreams.ratios import Ratio, as_ratio, ratio_list
from allstreams.thinning import thinned_bottom

FARTHEST = 1000


class Ruled:
    """A stream with its least rule, and as many first items as this has degrees."""

    def __init__(self, begun, rule):
        items = ratio_list(begun)
        if not isinstance(rule, Poly) or rule.degree() != len(items) or rule.parts[-1] != Ratio(1):
            raise BadValue(rule)
        bottom = rule.turned()
        # Items behind the first ones are told by the rule: there the product has no parts.
        self.worth = Quotient(Poly((Poly(items) * bottom).parts[:len(items)]), bottom)
        self.rule = least_rule(self.worth)
        self.begun = tuple(items[:self.rule.degree()])
        self.mark = Mark(("Ratio",))

    def __eq__(self, other):
        return isinstance(other, Ruled) and self.begun == other.begun and self.rule == other.rule

    def __add__(self, other):
        need_ruled(other)
        return stream_of(self.worth + other.worth)

    def __sub__(self, other):
        need_ruled(other)
        return stream_of(self.worth - other.worth)

    def __mul__(self, other):
        factor = as_ratio(other)
        return Ruled([item * factor for item in self.begun], self.rule)

    def __rmul__(self, other):
        return self * as_ratio(other)

    def __neg__(self):
        return Ruled([-item for item in self.begun], self.rule)

    def item(self, place):
        need_near(place)
        return self.worth.part(place)

    def beginning(self, many):
        need_near(many)
        return self.worth.first(many)

    def later(self, many):
        need_near(many)
        return Ruled(self.worth.first(many + self.rule.degree())[many:], self.rule)

    def behind(self, items):
        ahead = ratio_list(items)
        return Ruled([*ahead, *self.begun], self.rule.raised(len(ahead)))

    def divided(self, poly):
        need_poly(poly)
        if not poly.parts:
            raise BadValue(poly)
        return stream_of(Quotient(self.worth.top.raised(poly.degree()), self.worth.bottom * poly.turned()))

    def thinned(self, many, rest):
        need_many(many)
        need_rest(rest, many)
        rule = thinned_bottom(self.worth.bottom, many).turned()
        # The items that do not go by the bottom come first: as many of them are left as are thinned of them.
        free = self.rule.low()
        rule = rule.raised((free + many - 1) // many)
        return Ruled(self.worth.first(many * rule.degree())[rest::many], rule)

    def stretched(self, many):
        need_many(many)
        return stream_of(stretched_quotient(self.worth, many))

    def held(self, many):
        need_many(many)
        return stream_of(stretched_quotient(self.worth, many) * Poly([1] * many))

    def quotient(self):
        return self.worth


def least_rule(quotient):
    """The least rule of the stream of the parts."""
    bottom = quotient.bottom
    return bottom.turned().raised(max(0, quotient.top.degree() + 1 - bottom.degree()))


def stream_of(quotient):
    """The stream of the parts."""
    rule = least_rule(quotient)
    return Ruled(quotient.first(rule.degree()), rule)


def stretched_poly(poly, many):
    """The poly at the power many of its letter."""
    return Poly([part if place == 0 else 0 for part in poly.parts for place in range(many)])


def stretched_quotient(quotient, many):
    return Quotient(stretched_poly(quotient.top, many), stretched_poly(quotient.bottom, many))


def need_near(value):
    """A whole number, up to the farthest place that is looked at."""
    need_within(value, 0, FARTHEST)


def need_ruled(value):
    if not isinstance(value, Ruled):
        raise BadValue(value)


def woven_of(streams):
    for stream in need_list(streams):
        need_ruled(stream)
    many = len(streams)
    if not is_within(many, LEAST, MOST):
        raise BadValue(streams)
    worths = [stream.worth for stream in streams]
    bottom = common_multiple([worth.bottom for worth in worths])
    top = Poly([])
    for place, worth in enumerate(worths):
        top = top + stretched_poly(top_over(worth, bottom), many).raised(place)
    return stream_of(Quotient(top, stretched_poly(bottom, many)))


def ruled_of(quotient):
    need_quotient(quotient)
    return stream_of(quotient)


def first_apart(one, other):
    need_ruled(one)
    need_ruled(other)
    return first_unlike(one.worth, other.worth)
