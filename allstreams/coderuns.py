"""Codes gone through turn by turn."""

from allstreams.checks import need_within
from allstreams.codes import need_code
from allstreams.errors import BadValue
from allstreams.ratios import Ratio, as_ratio
from allstreams.turns import MOST_TURNS, need_streams


def run_code(code, ins, turns):
    return walked(code, ins, turns).given


def held_after(code, ins, turns):
    walk = walked(code, ins, turns)
    return walk.cells, walk.rings


def walked(code, ins, turns):
    """The Walk of a code through so many turns."""
    need_code(code)
    need_streams(ins, [name for name, _ in code.ins])
    need_within(turns, 0, MOST_TURNS)
    if any([len(ins[name]) < turns * many for name, many in code.ins]):
        raise BadValue(ins)
    walk = Walk(code, ins)
    for _ in range(turns):
        for instruction in code.instructions:
            walk.do(instruction)
    return walk


class Walk:
    """What cells and rings hold, what is left of the ins, and what has been given on the outs."""

    def __init__(self, code, ins):
        self.cells = [Ratio(0) for _ in range(code.cells)]
        self.rings = [list(ring) for ring in code.rings]
        self.ins = ins
        self.counts = {name: 0 for name, _ in code.ins}
        self.given = {name: [] for name, _ in code.outs}

    def do(self, instruction):
        word, first, second = instruction
        if word == "take":
            self.cells[first] = as_ratio(self.ins[second][self.counts[second]])
            self.counts[second] = self.counts[second] + 1
        elif word == "put":
            self.cells[first] = second
        elif word == "sum":
            total = Ratio(0)
            for ratio, cell in second:
                total = total + ratio * self.cells[cell]
            self.cells[first] = total
        elif word == "pull":
            self.cells[first] = self.rings[second].pop(0)
        elif word == "push":
            self.rings[first].append(self.cells[second])
        else:
            self.given[first].append(self.cells[second])
