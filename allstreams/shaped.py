"""Texts made of machines."""

from allstreams.errors import BadValue, TooMany
from allstreams.machines import need_machine
from allstreams.ratios import Ratio
from allstreams.wiring import Text, need_unlike_names
from allstreams.words import is_name

MOST_BOXES = 60


def text_of(machine, name, ins, outs):
    need_machine(machine)
    if not machine.outs:
        raise BadValue(machine)
    if not is_name(name):
        raise BadValue(name)
    need_names_for(ins, machine.ins)
    need_names_for(outs, machine.outs)
    if any([out in ins for out in outs]):
        raise BadValue(outs)
    lanes = sum(machine.outs)
    if 2 * machine.size() + lanes + len(machine.ins) + len(machine.outs) + 1 > MOST_BOXES:
        raise TooMany(MOST_BOXES)
    return Text(name, ins, outs, Shaping(machine, ins, outs).told_boxes())


def need_names_for(names, lanes):
    """Unlike names, one for each in or each out of a machine."""
    need_unlike_names(names)
    if len(names) != len(lanes):
        raise BadValue(names)


class Shaping:
    """The boxes of a text that does what a machine does: all wires between deals and weaves have the pace 1."""

    def __init__(self, machine, ins, outs):
        self.machine = machine
        self.ins = ins
        self.outs = outs
        self.used = {name: True for name in [*ins, *outs]}
        self.states = self.new_names("s", machine.size())
        self.nexts = self.new_names("n", machine.size())
        self.ends = [self.lanes_of(name, many, "i") for name, many in zip(ins, machine.ins)]
        self.tells = [self.lanes_of(name, many, "o") for name, many in zip(outs, machine.outs)]
        self.bearers = [*self.states, *[name for names in self.ends for name in names]]

    def new_names(self, letter, many):
        """So many names of wires that have not been used."""
        names = []
        number = 0
        while len(names) < many:
            name = f"{letter}{number}"
            if name not in self.used:
                self.used[name] = True
                names.append(name)
            number += 1
        return names

    def lanes_of(self, name, many, letter):
        """The wires that bear the lanes of an in or an out; it bears them itself if there is one."""
        return [name] if many == 1 else self.new_names(letter, many)

    def told_boxes(self):
        told = [("deal", names, name) for name, names in zip(self.ins, self.ends) if len(names) > 1]
        bearers = self.bearers
        if not bearers:
            bearers = self.new_names("z", 1)
            told = [("source", bearers[0], (Ratio(0),))]
        machine = self.machine
        wires = [name for names in self.tells for name in names]
        for number, (wire, row, beside) in enumerate(zip(wires, machine.c.rows, machine.d.rows)):
            # The first one names all wires, so that all hang together.
            told.append(("sum", wire, terms([*row, *beside], bearers, number == 0)))
        for wire, row, beside in zip(self.nexts, machine.a.rows, machine.b.rows):
            told.append(("sum", wire, terms([*row, *beside], bearers, False)))
        for wire, item, taken in zip(self.states, machine.start, self.nexts):
            told.append(("delay", wire, (item,), taken))
        weaves = [("weave", name, names) for name, names in zip(self.outs, self.tells) if len(names) > 1]
        return told + weaves


def terms(ratios, wires, is_whole):
    """The terms of a sum: those with the factor 0 are only told if it is to be whole, or if there are no others."""
    pairs = list(zip(ratios or [Ratio(0)], wires))
    kept = [(ratio, wire) for ratio, wire in pairs if is_whole or ratio.top != 0]
    return tuple(kept or pairs[:1])
