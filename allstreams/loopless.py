"""Machines undone without loops; all this is told of machines at rest."""

from allstreams.checks import need_whole
from allstreams.errors import NotUndone
from allstreams.grids import columns_of
from allstreams.least import smaller
from allstreams.lowest import lowered
from allstreams.machines import need_machine
from allstreams.polymatrices import PolyMatrix
from allstreams.polys import Poly
from allstreams.realizing import machine_by_rows
from allstreams.responses import matrix_of


def loopless_late(machine):
    need_machine(machine)
    return late_of(lowered(matrix_of(machine))[1], machine.b.width)


def late_of(diagonal, lanes):
    """The least lateness that the lowest diagonal of a matrix with so many in lanes allows, None if there is none."""
    if len(diagonal) < lanes or any([entry.top.degree() > entry.low() for entry in diagonal]):
        return None
    return max([entry.low() for entry in diagonal], default=0)


def loopless_undo(machine, late):
    need_machine(machine)
    need_whole(late)
    left, diagonal, columns = lowered(matrix_of(machine))
    lanes = machine.b.width
    least = late_of(diagonal, lanes)
    if least is None or least > late:
        raise NotUndone()
    # Each entry of the diagonal times this is the lateness: its top is a power of z alone.
    scaled = [[entry * step.bottom.raised(late - step.low()) for entry in row] for step, row in zip(diagonal, left)]
    right = PolyMatrix(columns_of(columns, lanes), lanes)
    polys = right * PolyMatrix(scaled, machine.c.height)
    return smaller(machine_by_rows([(row, Poly([1])) for row in polys.rows], machine.outs, machine.ins))


def loopless_breaker(machine):
    need_machine(machine)
    _, diagonal, columns = lowered(matrix_of(machine))
    if late_of(diagonal, machine.b.width) is not None:
        return None
    # The matrix makes of each of these columns an entry of the diagonal, or 0; and no poly divides a column.
    for entry, column in zip(diagonal, columns):
        if entry.top.degree() > entry.low():
            return Poly(entry.top.parts[entry.low():]), tuple(column)
    return Poly([1, -1]), tuple(columns[len(diagonal)])
