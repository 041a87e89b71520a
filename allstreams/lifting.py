"""Solutions of linear equations in integers, by digits to the base of a modulus.

The inverse by one modulus is enough: each digit of the solution costs no more than the first one, however long the
ratios are that it tells.
"""

from allstreams.grids import columns_of
from allstreams.matrices import Matrix, whole_rows
from allstreams.ratios import Ratio
from allstreams.remainders import inverse_of, modulus_of, rests_of, shared_bottom_of, whole_from


def solved_square(matrix, other):
    """The Matrix x with matrix * x = other, for a Matrix that has an inverse."""
    attempt = 0
    found = None
    while found is None:
        found = solved_by(matrix, other, modulus_of(attempt))
        attempt += 1
    return found


def solved_by(matrix, other, modulus):
    """The same by the inverse that the matrix has by this modulus; None if it has none."""
    size = matrix.height
    both = whole_rows([[*row, *beside] for row, beside in zip(matrix.rows, other.rows)])
    rows = [row[:size] for row in both]
    try:
        inverse = inverse_rows(rows, modulus)
    except ZeroDivisionError:
        return None
    columns = columns_of([row[size:] for row in both], other.width)
    found = [solved_column(rows, column, inverse, modulus) for column in columns]
    return Matrix(columns_of(found, size), other.width)


def solved_column(rows, column, inverse, modulus):
    total, rest = [0 for _ in column], column
    power, digits = 1, 0
    while True:
        digit = rests_of([dot(row, rest) for row in inverse], modulus)
        total = [one + two * power for one, two in zip(total, digit)]
        rest = [(one - dot(row, digit)) // modulus for one, row in zip(rest, rows)]
        power = power * modulus
        digits += 1
        # Trying is dear: so it is tried with 1, 2, 4, 8 digits and so on.
        if digits & (digits - 1) == 0:
            found = ratios_from(rows, column, total, power)
            if found is not None:
                return found


def dot(row, column):
    return sum([one * two for one, two in zip(row, column)])


def ratios_from(rows, column, rests, modulus):
    """The solution that leaves these rests, None if the modulus is not great enough for it."""
    bottom = shared_bottom_of(rests, modulus)
    if bottom is None:
        return None
    tops = whole_from(rests, bottom, modulus)
    if any([dot(row, tops) != bottom * entry for row, entry in zip(rows, column)]):
        return None
    return [Ratio(top, bottom) for top in tops]


def inverse_rows(rows, modulus):
    """The rows of the inverse by the modulus."""
    size = len(rows)
    left = [rests_of([*row, *[1 if at == place else 0 for at in range(size)]], modulus)
            for place, row in enumerate(rows)]
    done = []
    for column in range(size):
        row, left = pivot_row(left, column, modulus)
        left = [cleared(other, row, column, modulus) for other in left]
        done = [*[cleared(other, row, column, modulus) for other in done], row]
    return [row[size:] for row in done]


def pivot_row(rows, column, modulus):
    """A row with 1 in this column, and the other rows."""
    places = [place for place, row in enumerate(rows) if row[column]]
    if not places:
        raise ZeroDivisionError("no inverse by this modulus")
    row = rows[places[0]]
    inverse = inverse_of(row[column], modulus)
    return rests_of([part * inverse for part in row], modulus), rows[:places[0]] + rows[places[0] + 1:]


def cleared(row, step, column, modulus):
    """The row without what it has of the step, which has 1 in this column."""
    times = row[column]
    if times == 0:
        return row
    return rests_of([one - times * two for one, two in zip(row, step)], modulus)
