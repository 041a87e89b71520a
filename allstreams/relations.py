"""Relations between the rows of matrices of polys, and rows as sums of these rows."""

from allstreams.checks import need_list
from allstreams.errors import BadValue
from allstreams.hermite import form_and_relations, pivot_of
from allstreams.polymatrices import PolyMatrix, need_poly_matrix
from allstreams.polyrows import multiplied_polys
from allstreams.polys import as_poly, is_polylike, quotient_and_rest


def left_relations(matrix):
    need_poly_matrix(matrix)
    return PolyMatrix(form_and_relations(matrix)[2], matrix.height)


def multipliers_of(row, matrix):
    need_poly_matrix(matrix)
    for entry in need_list(row):
        if not is_polylike(entry):
            raise BadValue(entry)
    if len(row) != matrix.width:
        raise BadValue(matrix)
    return each_multipliers([[as_poly(entry) for entry in row]], matrix)[0]


def each_multipliers(rows, matrix):
    """For each of the rows of Polys a tuple of multipliers, None if it is no row sum."""
    form, multipliers, _ = form_and_relations(matrix)
    columns = [[line[place] for line in multipliers] for place in range(matrix.height)]
    told = [times_of(row, form) for row in rows]
    return [None if times is None else tuple(multiplied_polys([times], columns)[0]) for times in told]


def has_rows(matrix, other):
    need_poly_matrix(matrix)
    need_poly_matrix(other)
    if other.width != matrix.width:
        raise BadValue(other)
    form = form_and_relations(matrix)[0]
    return not any([times_of(row, form) is None for row in other.rows])


def times_of(row, form):
    """How often each row of a hermite form is in a row sum; None if the row is none."""
    rest = list(row)
    told = []
    for step in form:
        pivot = pivot_of(step)
        times, left = quotient_and_rest(rest[pivot], step[pivot])
        if left.parts:
            return None
        told.append(times)
        if times.parts:
            rest = [entry - times * other for entry, other in zip(rest, step)]
    return None if any([entry.parts for entry in rest]) else told
