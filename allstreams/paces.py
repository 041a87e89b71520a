"""Paces: how many items each wire of a text has in a turn."""

from math import gcd, lcm

from allstreams.errors import TooMany, Unpaced
from allstreams.ratios import Ratio
from allstreams.statements import given_of, taken_of
from allstreams.wiring import need_text

MOST_ITEMS = 200


class Ties:
    """Wires in groups; within a group their paces stand to each other as their sizes do."""

    def __init__(self):
        self.sizes = {}
        self.groups = {}
        self.members = {}

    def tie(self, pairs):
        """Ties the wires of a box, told with their paces up to a factor; whether they can have such paces."""
        first, measure = pairs[0]
        self.need_wire(first)
        for wire, pace in pairs[1:]:
            self.need_wire(wire)
            size = self.sizes[first] * Ratio(pace, measure)
            if self.groups[wire] != self.groups[first]:
                self.unite(self.groups[first], self.groups[wire], size * self.sizes[wire].inverse())
            elif self.sizes[wire] != size:
                return False
        return True

    def need_wire(self, wire):
        """A wire that is new is a group by itself, called as it is."""
        if wire not in self.sizes:
            self.sizes[wire] = Ratio(1)
            self.groups[wire] = wire
            self.members[wire] = [wire]

    def unite(self, kept, left, factor):
        """Makes one group of two; the sizes in the one left are to be taken times the factor."""
        if len(self.members[left]) > len(self.members[kept]):
            self.unite(left, kept, factor.inverse())
            return
        for wire in self.members[left]:
            self.sizes[wire] = self.sizes[wire] * factor
            self.groups[wire] = kept
        self.members[kept] = self.members[kept] + self.members[left]
        del self.members[left]


def box_paces(statement):
    """Pairs of the wires of a box and their paces, up to a factor that is the same for all of them."""
    word, given, taken = statement[0], given_of(statement), taken_of(statement)
    faster = slower = 1
    if word == "thin":
        slower = statement[2]
    if word == "deal":
        slower = len(given)
    if word in ("stretch", "hold"):
        faster = statement[2]
    if word == "weave":
        faster = len(taken)
    return [(wire, faster) for wire in given] + [(wire, slower) for wire in taken]


def least_integers(sizes):
    """The least integers that stand to each other as these Ratios above 0 do."""
    bottom = 1
    for size in sizes:
        bottom = lcm(bottom, size.bottom)
    tops = [size.top * (bottom // size.bottom) for size in sizes]
    shared = 0
    for top in tops:
        shared = gcd(shared, top)
    return [top // shared for top in tops]


def paces(text):
    need_text(text)
    ties = Ties()
    for number, statement in enumerate(text.statements, start=1):
        if not ties.tie(box_paces(statement)):
            raise Unpaced(number)
    wires = text.wires()
    return dict(zip(wires, least_integers([ties.sizes[wire] for wire in wires])))


def items_of_turn(text):
    return sum(paces(text).values())


def short_paces(text):
    """The paces of a text whose turns are not too long to be gone through item by item."""
    told = paces(text)
    if sum(told.values()) > MOST_ITEMS:
        raise TooMany(MOST_ITEMS)
    return told


def steps_of_turn(text):
    told = short_paces(text)
    return tuple([told[clock_of(statement)] for statement in text.statements])


def clock_of(statement):
    """The wire with each item of which the box makes a step."""
    return taken_of(statement)[0] if statement[0] in ("thin", "deal") else given_of(statement)[0]
