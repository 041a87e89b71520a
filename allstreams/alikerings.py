"""Rings that hold the same numbers for ever, and codes with one ring in the place of several."""

from allstreams.codes import Code
from allstreams.ratios import Ratio
from allstreams.worths import Worths


def ring_groups(code):
    """The coarsest parting of the rings into groups that are alike: lists of their numbers, by their first ones."""
    pushes = [instruction[1] for instruction in code.instructions if instruction[0] == "push"]
    keys = [
        (tuple([(item.top, item.bottom) for item in ring]), pushes.count(number))
        for number, ring in enumerate(code.rings)
    ]
    classes = first_places(keys)
    many = 0
    # Each round parts some group, or none is parted any more.
    while many < len(grouped(classes)):
        many = len(grouped(classes))
        pushed = Worths(code, classes).pushed
        classes = first_places([(old, tuple(told)) for old, told in zip(classes, pushed)])
    return grouped(classes)


def first_places(keys):
    """For each key the place of the first one that is equal."""
    firsts = {}
    for place, key in enumerate(keys):
        firsts.setdefault(key, place)
    return [firsts[key] for key in keys]


def grouped(classes):
    groups = {}
    for ring, first in enumerate(classes):
        groups.setdefault(first, []).append(ring)
    return [groups[first] for first in sorted(list(groups))]


def merged_rings(code, groups):
    merging = Merging(code, groups)
    for instruction in code.instructions:
        merging.do(instruction)
    rings = [code.rings[group[0]] for group in groups]
    return Code(code.ins, code.outs, merging.cells, rings, merging.early_pulls + merging.done)


class Merging:
    """The instructions with the first ring of each group in the place of all of them.

    Its numbers are pulled at the beginning of the turn, as many as there are then, and copied where they were pulled.
    A number that was pushed in the same turn is copied from a cell of its own, or pulled where it was.
    """

    def __init__(self, code, groups):
        self.cells = code.cells
        self.early_pulls = []
        self.done = []
        self.places = {ring: place for place, group in enumerate(groups) for ring in group}
        self.firsts = {ring: group[0] for group in groups for ring in group}
        self.pulls = {ring: 0 for ring in self.places}
        self.saved = {ring: [] for ring in self.places}
        self.lengths = {ring: len(code.rings[ring]) for ring in self.places}
        # Cells of the numbers that are pulled ahead, for groups of several rings.
        self.early = {}
        pulled = [instruction[2] for instruction in code.instructions if instruction[0] == "pull"]
        for place, group in enumerate(groups):
            if len(group) > 1:
                many = min(pulled.count(group[0]), len(code.rings[group[0]]))
                self.early[group[0]] = [self.new_cell() for _ in range(many)]
                self.early_pulls.extend([("pull", cell, place) for cell in self.early[group[0]]])

    def new_cell(self):
        self.cells += 1
        return self.cells - 1

    def do(self, instruction):
        word, first, second = instruction
        if word == "pull":
            self.pull(first, second)
        elif word == "push":
            self.push(first, second)
        else:
            self.done.append(instruction)

    def pull(self, cell, ring):
        first, number = self.firsts[ring], self.pulls[ring]
        self.pulls[ring] = number + 1
        if first in self.early and number < self.lengths[ring]:
            self.copy_to(cell, self.early[first][number])
        elif ring == first:
            self.done.append(("pull", cell, self.places[ring]))
        else:
            self.copy_to(cell, self.saved[ring][number - self.lengths[ring]])

    def push(self, ring, cell):
        if ring == self.firsts[ring]:
            self.done.append(("push", self.places[ring], cell))
        else:
            self.saved[ring].append(self.new_cell())
            self.copy_to(self.saved[ring][-1], cell)

    def copy_to(self, cell, other):
        self.done.append(("sum", cell, ((Ratio(1), other),)))
