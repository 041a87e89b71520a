"""Steps of boxes: which items a step takes and gives, and how many have been taken and given behind some steps."""

from allstreams.itemwise import worth_of
from allstreams.statements import given_of, taken_of


def takes_at(statement, step):
    """The pairs (wire, place) of the items that a box takes with the step of this number, from 0 on."""
    word, taken = statement[0], taken_of(statement)
    if word in ("stretch", "hold"):
        many = statement[2]
        return [] if step % many else [(taken[0], step // many)]
    if word == "weave":
        return [(taken[step % len(taken)], step // len(taken))]
    return [(wire, step) for wire in taken]


def gives_at(statement, step):
    """The wire on which a box gives an item with this step; None if it gives none."""
    if statement[0] == "thin":
        return statement[1] if step % statement[2] == statement[3] else None
    if statement[0] == "deal":
        return statement[1][step % len(statement[1])]
    return statement[1]


def met(steps, many, rest):
    """How many of the numbers below steps leave this rest."""
    return (steps - rest + many - 1) // many


def taken_by(statement, number, steps):
    """How many items a box has taken behind so many steps where it names the wire of this number."""
    if statement[0] in ("stretch", "hold"):
        return met(steps, statement[2], 0)
    if statement[0] == "weave":
        return met(steps, len(statement[2]), number)
    return steps


def given_by(statement, number, steps):
    """How many items have come, behind so many steps, on the wire of this number that a box gives."""
    if statement[0] == "delay":
        return len(statement[2]) + steps
    if statement[0] == "thin":
        return met(steps, statement[2], statement[3])
    if statement[0] == "deal":
        return met(steps, len(statement[1]), number)
    return steps


def takers_of(text):
    """For each wire the pairs of a box, counted from 0, and a number, for each place at which a box names it."""
    takers = {wire: [] for wire in text.wires()}
    for box, statement in enumerate(text.statements):
        for number, wire in enumerate(taken_of(statement)):
            takers[wire].append((box, number))
    return takers


def begun_of(statement):
    """The items that lie on the wires that a box gives ahead of all steps."""
    return list(statement[2]) if statement[0] == "delay" else []


class Boxes:
    """The boxes of a text, and what their steps do; a standing tells for each box how many steps it has made."""

    def __init__(self, text):
        self.statements = text.statements
        self.takers = takers_of(text)

    def waits(self, wire, come, standing):
        """How many items wait on a wire, of those that have come."""
        takers = self.takers[wire]
        if not takers:
            return 0
        return come - min([taken_by(self.statements[box], number, standing[box]) for box, number in takers])

    def takes(self, box, standing):
        """The items that the next step of a box takes."""
        return takes_at(self.statements[box], standing[box])

    def made_by(self, box, standing, streams):
        """A pair of a wire and the item that the next step of a box gives; None if it gives none."""
        statement = self.statements[box]
        wire = gives_at(statement, standing[box])
        return None if wire is None else (wire, worth_of(statement, wire, len(streams[wire]), streams))


class Turn:
    """The steps of a turn of a text; told are its paces, many the steps of each box."""

    def __init__(self, text, told, many):
        self.boxes = Boxes(text)
        self.many = many
        self.begun = {wire: told[wire] for wire in text.ins}
        self.givers = {}
        for box, statement in enumerate(text.statements):
            for number, wire in enumerate(given_of(statement)):
                self.givers[wire] = (box, number)

    def come_on(self, wire, standing):
        """How many items have come on a wire."""
        if wire in self.begun:
            return self.begun[wire]
        box, number = self.givers[wire]
        return given_by(self.boxes.statements[box], number, standing[box])

    def filling(self, standing):
        wires = [*self.begun, *self.givers]
        return sum([self.boxes.waits(wire, self.come_on(wire, standing), standing) for wire in wires])

    def can_go(self, box, standing):
        """Whether a box has a step left in the turn, and what it takes has come."""
        if standing[box] == self.many[box]:
            return False
        return all([place < self.come_on(wire, standing) for wire, place in self.boxes.takes(box, standing)])

    def is_done(self, standing):
        return list(standing) == list(self.many)

    def noughts(self):
        """The standing ahead of all steps."""
        return [0 for _ in self.many]
