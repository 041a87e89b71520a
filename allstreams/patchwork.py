"""Machines made of blocks of states: what blocks become is told by forms.

A form is a dict from the names of blocks of states, and from "in" for what is taken, to the matrices by which they
are multiplied; what it tells is the sum of the products.
"""

from allstreams.machines import Machine
from allstreams.matrices import Matrix, identity
from allstreams.ratios import Ratio

TAKEN = "in"


def plain(name, size):
    """The form that tells a block as it is."""
    return {name: identity(size)}


def times(matrix, form):
    # Many forms tell a block as it is.
    return {name: matrix if form[name] == identity(matrix.width) else matrix * form[name] for name in form}


def added(forms):
    """The sum of some forms."""
    total = {}
    for form in forms:
        for name in form:
            total[name] = total[name] + form[name] if name in total else form[name]
    return total


class Patchwork:
    """Blocks of states, in order: their sizes, what they are at first, and the forms of what they become."""

    def __init__(self):
        self.sizes = {}
        self.begun = []
        self.forms = {}

    def add_block(self, name, start, form):
        self.sizes[name] = len(start)
        self.begun = self.begun + list(start)
        self.forms[name] = form

    def add_line(self, name, many, size, form):
        """So many blocks, which hold one behind another what the form told 1, 2, .. turns ago; the form of the last.

        Without blocks this is the form itself.
        """
        for number in range(1, many + 1):
            self.add_block(line_name(name, number), [0] * size, form)
            form = plain(line_name(name, number), size)
        return form

    def made(self, out, height, ins, outs):
        """The Machine whose outs, so many lanes, are told by the form out."""
        taken = {TAKEN: sum(ins)}
        forms = [(self.sizes[name], self.forms[name]) for name in self.sizes]
        many = len(self.begun)
        a = Matrix(rows_of(forms, self.sizes), many)
        b = Matrix(rows_of(forms, taken), taken[TAKEN])
        c = Matrix(rows_of([(height, out)], self.sizes), many)
        return Machine(a, b, c, Matrix(rows_of([(height, out)], taken), taken[TAKEN]), self.begun, ins, outs)


def rows_of(forms, sizes):
    """The rows of forms, told with their heights: how often they have what blocks of these sizes hold."""
    noughts = {name: [Ratio(0) for _ in range(sizes[name])] for name in sizes}
    return [
        [entry for name in sizes for entry in (form[name].rows[place] if name in form else noughts[name])]
        for height, form in forms for place in range(height)
    ]


def line_name(name, number):
    return f"{name}{number}"
