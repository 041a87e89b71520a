"""Spaces of rows that a matrix leaves within themselves, worked out by a great modulus and then proved.

Where rows are multiplied by a matrix again and again, ratios grow on the way to a space that may be told by small
ones; what they leave by a modulus does not grow.
"""

from allstreams.grids import columns_of
from allstreams.matrices import Matrix, identity, part_of, whole_rows
from allstreams.remainders import inverse_of, modulus_of, rests_of, shared_bottom_of, whole_from
from allstreams.ratios import Ratio
from allstreams.wholes import shared_bottom


class Steps:
    """Rows in echelon form by a modulus: each has 1 at its pivot, where all others have 0."""

    def __init__(self, modulus):
        self.modulus = modulus
        self.found = []

    def rest(self, row):
        """What is left of a row when multiples of those found have been taken away."""
        total = list(row)
        for pivot, step in self.found:
            times = row[pivot]
            if times:
                total = [one - times * two for one, two in zip(total, step)]
        return rests_of(total, self.modulus)

    def add_rest(self, rest):
        """Takes up what is left of a row, if it is not 0 everywhere; it is told with 1 at its pivot.

        ZeroDivisionError if the modulus is of no use.
        """
        pivot = first_place(rest)
        inverse = inverse_of(rest[pivot], self.modulus)
        step = rests_of([part * inverse for part in rest], self.modulus)
        self.found = [(place, self.cleared(line, step, pivot)) for place, line in self.found]
        self.found.append((pivot, step))
        return step

    def cleared(self, line, step, pivot):
        times = line[pivot]
        if times == 0:
            return line
        return rests_of([one - times * two for one, two in zip(line, step)], self.modulus)


def first_place(parts):
    """The place of the first part that is not 0."""
    return [place for place, part in enumerate(parts) if part][0]


def row_space(rows, matrix):
    """The echelon form of these rows, these times the matrix, times the matrix twice, and so on; two Matrices."""
    attempt = 0
    found = None
    while found is None:
        found = space_by(rows, matrix, modulus_of(attempt))
        attempt += 1
    return found


def column_space(columns, matrix):
    """Columns whose sums of multiples are those of these columns, the matrix times these, and so on.

    They are the turned echelon form of the turned columns.
    """
    return row_space(columns.turned(), matrix.turned()).turned()


def space_by(rows, matrix, modulus):
    """The space as this modulus tells it, or None if the modulus is of no use.

    By a prime that divides the modulus there are at most as many rows as there should be. So they are right if
    the rows passed are within their space, and what the matrix makes of them is.
    """
    try:
        steps = steps_by(rows, matrix, modulus)
    except ZeroDivisionError:
        return None
    width = matrix.width
    if len(steps) == width:
        return identity(width)
    lines = ratio_rows([step for _, step in steps], modulus)
    if lines is None:
        return None
    found = Matrix(lines, width)
    pivots = [pivot for pivot, _ in steps]
    is_space = is_within_steps(rows, found, pivots) and is_within_steps(found * matrix, found, pivots)
    return found if is_space else None


def steps_by(rows, matrix, modulus):
    """The pivots and the rows of the echelon form, by this modulus."""
    # Multiples of the matrix, and of the rows, make the same space.
    columns, _ = whole_columns(matrix)
    steps = Steps(modulus)
    waiting = [rests_of(row, modulus) for row in whole_rows(rows.rows)]
    while waiting:
        coming = []
        for row in waiting:
            rest = steps.rest(row)
            if any(rest):
                coming.append(steps.add_rest(rest))
        waiting = [times_columns(step, columns, modulus) for step in coming]
    return sorted(steps.found)


def whole_columns(matrix):
    """The columns of a Matrix as integers, and the bottom by which all are to be divided."""
    bottom = shared_bottom([entry for row in matrix.rows for entry in row])
    columns = columns_of(matrix.rows, matrix.width)
    return [[entry.top * (bottom // entry.bottom) for entry in column] for column in columns], bottom


def times_columns(row, columns, modulus):
    filled = [(place, part) for place, part in enumerate(row) if part]
    return rests_of([sum([part * column[place] for place, part in filled]) for column in columns], modulus)


def ratio_rows(rows, modulus):
    """The rows of Ratios that leave these rests; None if the modulus is not great enough for them."""
    lines = []
    for row in rows:
        bottom = shared_bottom_of(row, modulus)
        if bottom is None:
            return None
        lines.append([Ratio(top, bottom) for top in whole_from(row, bottom, modulus)])
    return lines


def is_within_steps(rows, found, pivots):
    """Whether these rows are sums of multiples of rows in echelon form with these pivots."""
    return at_places(rows, pivots) * found == rows


def at_places(rows, places):
    """The columns of a Matrix at these places."""
    return part_of(rows, list(range(rows.height)), places)
