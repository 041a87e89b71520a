"""What the boxes of a text tell, item by item, as point 4 tells it: far from plans, steps and machines."""

from fractions import Fraction

from tests.helpers import fraction


class Ring(Exception):
    """An item needs itself."""


class Oracle:
    """The items of the wires of a text, with streams on its ins that go on with noughts."""

    def __init__(self, text, ins):
        self.text, self.ins, self.known = text, ins, {}
        self.givers = {}
        for statement in text.statements:
            for wire in [statement[1]] if isinstance(statement[1], str) else statement[1]:
                self.givers[wire] = statement

    def parts(self, wire, place):
        """The terms (factor, wire, place) of an item, and what is added to them."""
        word, _, *rest = self.givers[wire]
        if word == "sum":
            return [(fraction(ratio), name, place) for ratio, name in rest[0]], 0
        if word == "delay":
            begun, name = rest
            return ([], fraction(begun[place])) if place < len(begun) else ([(1, name, place - len(begun))], 0)
        if word == "source":
            return [], fraction(rest[0][place % len(rest[0])])
        if word == "thin":
            many, left, name = rest
            return [(1, name, many * place + left)], 0
        if word == "stretch":
            many, name = rest
            return ([] if place % many else [(1, name, place // many)]), 0
        if word == "hold":
            many, name = rest
            return [(1, name, place // many)], 0
        names = self.givers[wire][1]
        if word == "deal":
            return [(1, rest[0], len(names) * place + names.index(wire))], 0
        return [(1, rest[0][place % len(rest[0])], place // len(rest[0]))], 0

    def needs(self, wire, place):
        """The items that an item needs."""
        found = [(name, at) for _, name, at in self.parts(wire, place)[0]] if wire in self.givers else []
        return set(found + ([(wire, place - 1)] if place else []))

    def item(self, wire, place):
        """A Fraction; Ring if it does not come."""
        if wire not in self.givers:
            told = self.ins[wire]
            return fraction(told[place]) if place < len(told) else Fraction(0)
        key = (wire, place)
        if key not in self.known:
            self.known[key] = None
            for one in sorted(self.needs(wire, place)):
                self.item(*one)
            terms, worth = self.parts(wire, place)
            for factor, name, at in terms:
                worth = worth + factor * self.item(name, at)
            self.known[key] = worth
        if self.known[key] is None:
            raise Ring()
        return self.known[key]

    def first(self, wire, many):
        return [self.item(wire, place) for place in range(many)]
