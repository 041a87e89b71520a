"""Codes made of texts by their plans."""

from allstreams.boxsteps import gives_at
from allstreams.codes import Code
from allstreams.errors import BadValue, StandsStill
from allstreams.itemwise import made_of, order_of_turn
from allstreams.paces import short_paces
from allstreams.plans import need_boxes, told_fillings, turn_of
from allstreams.ratios import Ratio
from allstreams.statements import taken_of
from allstreams.wiring import need_text


def code_of(text, plan):
    need_text(text)
    need_boxes(plan)
    told = short_paces(text)
    if order_of_turn(text, told) is None:
        raise StandsStill()
    if told_fillings(turn_of(text), plan) is None:
        raise BadValue(plan)
    making = Making(text, told)
    for box in plan:
        making.step(box - 1)
    ins, outs = [(name, told[name]) for name in text.ins], [(name, told[name]) for name in text.outs]
    return Code(ins, outs, making.many, making.begun, making.done)


class Making:
    """The instructions of a turn, step by step.

    Each item has a cell, that of the item that it is or one of its own; places tells it by wires, in order. On rings
    lie the items of delays that belong to later turns, and the lists of sources.
    """

    def __init__(self, text, told):
        self.wiring = text
        self.told = told
        self.many = 0
        self.places = {wire: [] for wire in text.wires()}
        self.counts = [0 for _ in text.statements]
        self.rings = {}
        self.begun = []
        self.done = []
        for name in text.ins:
            for _ in range(told[name]):
                self.add_item(name, self.write("take", name))
        for statement in text.statements:
            if statement[0] in ("delay", "source"):
                self.rings[statement[1]] = len(self.begun)
                self.begun.append(statement[2])
        for statement in text.statements:
            if statement[0] == "delay":
                for _ in range(min(len(statement[2]), told[statement[1]])):
                    self.pull(statement[1])

    def write(self, word, told):
        """Writes to a new cell, and tells it."""
        cell = self.many
        self.many += 1
        self.done.append((word, cell, told))
        return cell

    def add_item(self, wire, cell):
        """The next item of a wire is in this cell."""
        self.places[wire].append(cell)
        if wire in self.wiring.outs:
            self.done.append(("give", wire, cell))

    def pull(self, wire):
        """The next item of a wire comes from its ring."""
        self.add_item(wire, self.write("pull", self.rings[wire]))

    def step(self, box):
        """The next step of a box, told by its number from 0 on."""
        statement, count = self.wiring.statements[box], self.counts[box]
        self.counts[box] = count + 1
        if statement[0] == "sum":
            terms = [(ratio, self.places[name][count]) for ratio, name in statement[2]]
            self.add_item(statement[1], self.write("sum", tuple(terms)))
        elif statement[0] == "source":
            self.pull(statement[1])
            self.done.append(("push", self.rings[statement[1]], self.places[statement[1]][-1]))
        elif statement[0] == "delay":
            self.done.append(("push", self.rings[statement[1]], self.places[taken_of(statement)[0]][count]))
            # What is pulled within the turn in which it was pushed is the only number on the ring.
            if len(statement[2]) + count < self.told[statement[1]]:
                self.pull(statement[1])
        else:
            self.pass_on(statement, count)

    def pass_on(self, statement, count):
        """The step of a box that gives items as they are, and noughts."""
        wire = gives_at(statement, count)
        if wire is not None:
            made = made_of(statement, wire, len(self.places[wire]))
            cells = [self.places[name][place] for name, place in made]
            self.add_item(wire, cells[0] if cells else self.write("put", Ratio(0)))
