"""Ladders that do what machines do."""

from allstreams.energy import loopless_answers
from allstreams.errors import BadValue
from allstreams.grids import columns_of
from allstreams.ladders import Ladder
from allstreams.lowest import lowered
from allstreams.machines import need_machine
from allstreams.polymatrices import PolyMatrix, poly_matrix
from allstreams.polys import quotient_and_rest
from allstreams.quotientmatrices import QuotientMatrix
from allstreams.ratios import Ratio


def ladder_of(machine):
    need_machine(machine)
    if machine.b.width != 2 or machine.c.height != 2:
        raise BadValue(machine)
    polys = poly_matrix(loopless_answers(machine))
    worth = polys.determinant()
    if not worth.parts or worth.low() < worth.degree():
        return None
    left, diagonal, columns = lowered(QuotientMatrix(polys.rows))
    # The entries of the lowest diagonal are powers of z: the matrices on both sides of it are reversible.
    lates = [("late", lane, entry.low()) for lane, entry in enumerate(diagonal) if entry.low() > 0]
    first, last = PolyMatrix(columns_of(columns, 2)).inverse(), PolyMatrix(left).inverse()
    return Ladder([*reversible_rungs(first), *lates, *reversible_rungs(last)])


def reversible_rungs(matrix):
    """The steps of a reversible PolyMatrix of two rows and two columns, by Euclid in its first column."""
    upper, lower = [list(row) for row in matrix.rows]
    last = []
    while lower[0].parts:
        if upper[0].degree() < lower[0].degree():
            upper, lower = lower, upper
            last = [("exchange",), *last]
        else:
            times = quotient_and_rest(upper[0], lower[0])[0]
            upper = [entry - times * other for entry, other in zip(upper, lower)]
            last = [("add", 0, times), *last]
    # Both entries of the diagonal are ratios now.
    first, second = upper[0].parts[0], lower[1].parts[0]
    factors = [("factor", lane, ratio) for lane, ratio in ((0, first), (1, second)) if ratio != Ratio(1)]
    between = upper[1] * second.inverse()
    return [*factors, *[("add", 0, between)][:len(between.parts)], *last]
