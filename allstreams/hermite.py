"""Hermite forms of matrices of polys, and what they leave of rows."""

from allstreams.checks import need_list
from allstreams.errors import BadValue
from allstreams.polymatrices import PolyMatrix, need_poly_matrix, whole_polys
from allstreams.polys import as_poly, is_polylike, poly_by
from allstreams.ratios import Ratio
from allstreams.staircase import staircase


def hermite(matrix):
    need_poly_matrix(matrix)
    form, multipliers, _ = form_and_relations(matrix)
    return PolyMatrix(form, matrix.width), PolyMatrix(multipliers, matrix.height)


def form_and_relations(matrix):
    """A triple of lists of rows: the hermite form, multipliers for it, the hermite form of the relations.

    The rows of the last two together are reversible.
    """
    rows, bottoms = whole_polys(matrix.rows)
    form, multipliers, relations = [], [], []
    for column, entries, bottom in staircase(rows, matrix.width):
        beside = [poly_by(entry, bottom) * times for entry, times in zip(entries[matrix.width:], bottoms)]
        if column < matrix.width:
            form.append([poly_by(entry, bottom) for entry in entries[:matrix.width]])
            multipliers.append(beside)
        else:
            times = Ratio(1, bottoms[column - matrix.width])
            relations.append([entry * times for entry in beside])
    return form, multipliers, relations


def hermite_pivots(form):
    need_own_form(form)
    return tuple([pivot_of(row) for row in form.rows])


def rest_of(row, form):
    need_own_form(form)
    for entry in need_list(row):
        if not is_polylike(entry):
            raise BadValue(entry)
    if len(row) != form.width:
        raise BadValue(form)
    rest = [as_poly(entry) for entry in row]
    for step in form.rows:
        pivot = pivot_of(step)
        times = rest[pivot].divided(step[pivot])[0]
        if times.parts:
            rest = [entry - times * other for entry, other in zip(rest, step)]
    return tuple(rest)


def pivot_of(row):
    """The column of the first entry that is not 0; None if there is none."""
    for column, entry in enumerate(row):
        if entry.parts:
            return column
    return None


def need_own_form(form):
    need_poly_matrix(form)
    if not is_own_form(form.rows):
        raise BadValue(form)


def is_own_form(rows):
    """Whether rows of Polys are a hermite form."""
    last = -1
    for place, row in enumerate(rows):
        pivot = pivot_of(row)
        if pivot is None or pivot <= last:
            return False
        if row[pivot].parts[-1].top != 1 or row[pivot].parts[-1].bottom != 1:
            return False
        if max([above[pivot].degree() for above in rows[:place]], default=-1) >= row[pivot].degree():
            return False
        last = pivot
    return True
