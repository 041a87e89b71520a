"""Machines undone without loops; all this is told of machines at rest."""

from allstreams.checks import need_whole
from allstreams.errors import NotUndone
from allstreams.grids import columns_of
from allstreams.lowest import diagonal_paper, lowest_diagonal
from allstreams.machines import need_machine
from allstreams.polymatrices import PolyMatrix
from allstreams.polys import Poly
from allstreams.realizing import machine_by_columns, machine_by_rows
from allstreams.responses import matrix_of


def loopless_late(machine):
    need_machine(machine)
    return late_of(lowest_diagonal(matrix_of(machine)), machine.b.width)


def late_of(diagonal, lanes):
    """The least lateness that the lowest diagonal of a matrix with so many in lanes allows, None if there is none."""
    if len(diagonal) < lanes or any([entry.top.degree() > entry.low() for entry in diagonal]):
        return None
    return max([entry.low() for entry in diagonal], default=0)


def loopless_undo(machine, late):
    need_machine(machine)
    need_whole(late)
    matrix = matrix_of(machine)
    diagonal = lowest_diagonal(matrix)
    least = late_of(diagonal, matrix.width)
    if least is None or least > late:
        raise NotUndone()
    left, right = diagonal_paper(matrix)
    # Each entry of the diagonal times this is the lateness: its top is a power of z alone.
    scaled = [
        [entry * step.bottom.raised(late - step.low()) for entry in row] for step, row in zip(diagonal, left.rows)
    ]
    return shorter_machine(right * PolyMatrix(scaled, left.width), machine.outs, machine.ins)


def shorter_machine(polys, ins, outs):
    """A machine of a PolyMatrix, made by rows or by columns, whichever has fewer states."""
    one = Poly([1])
    columns = columns_of(polys.rows, polys.width)
    by_rows = machine_by_rows([(row, one) for row in polys.rows], ins, outs)
    by_columns = machine_by_columns([(column, one) for column in columns], ins, outs)
    return by_columns if by_columns.size() < by_rows.size() else by_rows


def loopless_breaker(machine):
    need_machine(machine)
    matrix = matrix_of(machine)
    diagonal = lowest_diagonal(matrix)
    if late_of(diagonal, matrix.width) is not None:
        return None
    # What stands right of the lowest diagonal makes an entry of it, or 0, of a column; and no poly divides a column.
    columns = columns_of(diagonal_paper(matrix)[1].rows, matrix.width)
    for entry, column in zip(diagonal, columns):
        if entry.top.degree() > entry.low():
            return Poly(entry.top.parts[entry.low():]), tuple(column)
    return Poly([1, -1]), tuple(columns[len(diagonal)])
