"""Machines made by chance, and what they tell, worked out with Fractions by the letter of point 33."""

from fractions import Fraction

from allstreams.least import least_machine
from allstreams.machines import Machine
from allstreams.matrices import Matrix
from allstreams.polymatrices import poly_matrix
from allstreams.polys import Poly
from allstreams.quotientmatrices import QuotientMatrix
from allstreams.quotients import Quotient
from allstreams.responses import inverse_poly
from tests.helpers import fraction, random_ratio


def random_matrix(chance, height, width, zeros=4, size=3, bottoms=(1, 1, 2)):
    return Matrix([
        [0 if chance.randrange(10) < zeros else random_ratio(chance, size, bottoms) for _ in range(width)]
        for _ in range(height)
    ], width)


def random_lanes(chance, many):
    """So many lanes for ins or outs."""
    lanes = []
    while sum(lanes) < many:
        lanes.append(chance.randint(1, many - sum(lanes)))
    return lanes


def random_machine(chance, states, ins, outs, zeros=4, rest=False):
    """A machine with so many states, in lanes and out lanes."""
    start = [0 if rest else random_ratio(chance, 3) for _ in range(states)]
    return Machine(
        random_matrix(chance, states, states, zeros), random_matrix(chance, states, ins, zeros),
        random_matrix(chance, outs, states, zeros), random_matrix(chance, outs, ins, zeros), start,
        random_lanes(chance, ins), random_lanes(chance, outs),
    )


def loopless_machine(chance, states, ins, outs, zeros=4):
    """A machine whose states only act on those ahead of them."""
    told = random_machine(chance, states, ins, outs, zeros)
    rows = [[entry if column > row else 0 for column, entry in enumerate(line)] for row, line in enumerate(told.a.rows)]
    return Machine(Matrix(rows, states), told.b, told.c, told.d, told.start, told.ins, told.outs)


def random_columns(chance, machine, turns):
    return [[random_ratio(chance) for _ in range(machine.b.width)] for _ in range(turns)]


def fractions_in(rows):
    return [[fraction(entry) if not isinstance(entry, int) else Fraction(entry) for entry in row] for row in rows]


def applied(matrix, column):
    return [sum((one * two for one, two in zip(row, column)), Fraction(0)) for row in fractions_in(matrix.rows)]


def told_by(machine, columns):
    """What the machine tells, as lists of Fractions."""
    states = [fraction(item) for item in machine.start]
    told = []
    for column in fractions_in(columns):
        told.append([one + two for one, two in zip(applied(machine.c, states), applied(machine.d, column))])
        states = [one + two for one, two in zip(applied(machine.a, states), applied(machine.b, column))]
    return told


def changed(machine, **told):
    """The machine with other parts."""
    names = ("a", "b", "c", "d", "start", "ins", "outs")
    return Machine(*[told.get(name, getattr(machine, name)) for name in names])


def matrix_of(machine):
    """The matrix of the machine at rest: the parts of its quotients are the answers."""
    least = least_machine(machine.at_rest())
    bottom = inverse_poly(least.a)
    many = least.size() + 1
    tops = poly_matrix([least.answer(turn) for turn in range(many)]).times(bottom)
    # Behind these parts the answers go by the bottom, so the products have none there.
    return QuotientMatrix([[Quotient(Poly(entry.parts[:many]), bottom) for entry in row] for row in tops.rows],
                          tops.width)
