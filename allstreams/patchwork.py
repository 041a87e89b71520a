"""Machines made of blocks of states: what blocks become is told by forms.

A form is a dict from the names of blocks of states, and from "in" for what is taken, to the matrices by which they
are multiplied; what it tells is the sum of the products.
"""

from allstreams.machines import Machine
from allstreams.matrices import blocks, identity, zeros

TAKEN = "in"


def plain(name, size):
    """The form that tells a block as it is."""
    return {name: identity(size)}


def times(matrix, form):
    return {name: matrix * form[name] for name in form}


def added(forms):
    """The sum of some forms."""
    total = {}
    for form in forms:
        for name in form:
            total[name] = total[name] + form[name] if name in total else form[name]
    return total


class Patchwork:
    """Blocks of states, in order: their sizes, what they are at first, and the forms of what they become."""

    def __init__(self):
        self.sizes = {}
        self.begun = []
        self.forms = {}

    def add_block(self, name, start, form):
        self.sizes[name] = len(start)
        self.begun = self.begun + list(start)
        self.forms[name] = form

    def add_line(self, name, many, size, form):
        """So many blocks, which hold one behind another what the form told 1, 2, .. turns ago; the form of the last.

        Without blocks this is the form itself.
        """
        for number in range(1, many + 1):
            self.add_block(line_name(name, number), [0] * size, form)
            form = plain(line_name(name, number), size)
        return form

    def made(self, out, height, ins, outs):
        """The Machine whose outs, so many lanes, are told by the form out."""
        width = sum(ins)
        forms = [(self.sizes[name], self.forms[name]) for name in self.sizes]
        many = len(self.begun)
        a = blocks_of([(size, self.row(size, form)) for size, form in forms], many)
        b = blocks_of([(size, [form.get(TAKEN, zeros(size, width))]) for size, form in forms], width)
        c = blocks_of([(height, self.row(height, out))], many)
        return Machine(a, b, c, out.get(TAKEN, zeros(height, width)), self.begun, ins, outs)

    def row(self, height, form):
        return [form.get(name, zeros(height, self.sizes[name])) for name in self.sizes]


def line_name(name, number):
    return f"{name}{number}"


def blocks_of(rows, width):
    """The matrix of rows of matrices, told with their heights; without any it has the width that is told."""
    grid = [line for _, line in rows if line]
    return blocks(grid) if grid else zeros(sum([height for height, _ in rows]), width)
