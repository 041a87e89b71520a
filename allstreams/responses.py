"""The bottoms of the quotients whose parts are the answers of machines."""

from allstreams.grids import columns_of, identity_rows, multiplied_rows
from allstreams.polys import Poly
from allstreams.ratios import Ratio
from allstreams.spaces import whole_columns


def inverse_poly(matrix):
    """The determinant of 1 - z * matrix, a Poly in z."""
    columns, bottom = whole_columns(matrix)
    parts = []
    power = 1
    for part in told_parts(columns_of(columns, matrix.height)):
        parts.append(Ratio(part, power))
        power = power * bottom
    return Poly(parts)


def told_parts(rows):
    """The parts of the determinant of 1 - z * matrix, for integer rows, by Leverrier and Faddeev."""
    size = len(rows)
    power = identity_rows(size)
    parts = [1]
    for number in range(1, size + 1):
        product = multiplied_rows(rows, columns_of(power, size))
        part = -sum([product[place][place] for place in range(size)]) // number
        parts.append(part)
        power = [[entry + part if row == column else entry for column, entry in enumerate(line)]
                 for row, line in enumerate(product)]
    return parts
