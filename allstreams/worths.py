"""The worths of instructions: what they write, told by what a turn begins with and takes."""

from allstreams.codeturns import kept_cells
from allstreams.naming import added_forms
from allstreams.ratios import Ratio


class Worths:
    """The worth of each instruction that writes, and of each number that is pushed, ring by ring.

    A worth is a dict from atoms to Ratios; an atom is a tuple, that of what is a ratio alone is the empty one. classes
    tells for each ring by which one its pulled numbers are called.
    """

    def __init__(self, code, classes):
        self.told = []
        self.pushed = [[] for _ in code.rings]
        self.pulls = [0 for _ in code.rings]
        self.classes = classes
        self.cells = {cell: {("cell", cell): Ratio(1)} for cell in kept_cells(code)}
        for number, instruction in enumerate(code.instructions):
            self.told.append(self.worth_of(number, instruction))

    def worth_of(self, number, instruction):
        """The worth of the next instruction; None if it writes to no cell."""
        word, first, second = instruction
        if word == "give":
            return None
        if word == "push":
            self.pushed[first].append(worth_key(self.cells[second]))
            return None
        if word == "take":
            worth = {("take", number): Ratio(1)}
        elif word == "put":
            worth = {(): second} if second.top else {}
        elif word == "pull":
            worth = {("pull", self.classes[second], self.pulls[second]): Ratio(1)}
            self.pulls[second] = self.pulls[second] + 1
        else:
            total = added_forms([(ratio, self.cells[cell]) for ratio, cell in second])
            worth = {atom: total[atom] for atom in total if total[atom].top}
        self.cells[first] = worth
        return worth_key(worth)


def worth_key(worth):
    """A tuple that tells a worth."""
    return tuple(sorted([(atom, worth[atom].top, worth[atom].bottom) for atom in worth]))


def plain_worths(code):
    """The worths with an atom for each pulled number."""
    return Worths(code, list(range(len(code.rings)))).told


def ratio_of(key):
    """The ratio that a worth is alone; None if it has other atoms."""
    if not key:
        return Ratio(0)
    atom, top, bottom = key[0]
    return Ratio(top, bottom) if len(key) == 1 and atom == () else None


def is_copy(instruction):
    """Whether this is a sum of one term with the ratio 1."""
    return instruction[0] == "sum" and len(instruction[2]) == 1 and instruction[2][0][0] == Ratio(1)
