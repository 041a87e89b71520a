"""The matrices of machines: quotients whose parts are the answers."""

from allstreams.grids import columns_of, identity_rows, multiplied_rows
from allstreams.fresh import shortest
from allstreams.machines import first_answers
from allstreams.polymatrices import poly_matrix
from allstreams.polys import Poly
from allstreams.quotientmatrices import QuotientMatrix
from allstreams.quotients import Quotient
from allstreams.ratios import Ratio
from allstreams.spaces import whole_columns


def matrix_of(machine):
    """The matrix of the machine at rest, a QuotientMatrix."""
    least = shortest(machine.at_rest())
    bottom = inverse_poly(least.a)
    many = least.size() + 1
    tops = poly_matrix(first_answers(least, many)).times(bottom)
    # Behind these parts the answers go by the bottom, so the products have none there.
    rows = [[Quotient(Poly(entry.parts[:many]), bottom) for entry in row] for row in tops.rows]
    return QuotientMatrix(rows, tops.width)


def inverse_poly(matrix):
    """The determinant of 1 - z * matrix, a Poly in z."""
    columns, bottom = whole_columns(matrix)
    parts = []
    power = 1
    for part in told_parts(columns_of(columns, matrix.height)):
        parts.append(Ratio(part, power))
        power = power * bottom
    return Poly(parts)


def told_parts(rows):
    """The parts of the determinant of 1 - z * matrix, for integer rows, by Leverrier and Faddeev."""
    size = len(rows)
    power = identity_rows(size)
    parts = [1]
    for number in range(1, size + 1):
        product = multiplied_rows(rows, columns_of(power, size))
        part = -sum([product[place][place] for place in range(size)]) // number
        parts.append(part)
        power = [[entry + part if row == column else entry for column, entry in enumerate(line)]
                 for row, line in enumerate(product)]
    return parts
