"""Elimination on rows of integers that leaves no fractions.

By Bareiss's rule each row is divided by the pivot ahead of the last one, which always divides it; the entries
are minors of the rows passed. A row is only worked on where it does not have a 0 already, so each row holds the
pivot by which it is to be divided the next time.
"""


def eliminated(rows, width, upward):
    """Rows that are cleared in the columns of the pivots among the first columns, as many as the width tells.

    A tuple of four: the rows of the pivots, the pivots, the rows left, and the determinant of the rows of the
    pivots in these columns. Upward the rows of pivots are cleared above the other pivots, too.
    """
    waiting = [(row, 1) for row in rows]
    done, pivots = [], []
    last, sign = 1, 1
    for column in range(width):
        at = least_entry(waiting, column)
        if at is None:
            continue
        row, divisor = waiting[at]
        lead_row = [part * last // divisor for part in row] if divisor != last else row
        last = lead_row[column]
        if at % 2:
            sign = -sign
        waiting = [cleared_pair(pair, lead_row, column) for pair in waiting[:at] + waiting[at + 1:]]
        if upward:
            done = [cleared_pair(pair, lead_row, column) for pair in done]
        done = [*done, (lead_row, last)]
        pivots.append(column)
    return [row for row, _ in done], pivots, [row for row, _ in waiting], sign * last


def least_entry(waiting, column):
    """The number of the row whose entry is the shortest one but 0, None if all are 0."""
    sizes = [(row[column].bit_length(), at) for at, (row, _) in enumerate(waiting) if row[column]]
    return min(sizes)[1] if sizes else None


def cleared_pair(pair, lead_row, column):
    row, divisor = pair
    times = row[column]
    if times == 0:
        return pair
    lead = lead_row[column]
    return [(lead * part - times * other) // divisor for part, other in zip(row, lead_row)], lead


def rank_of(rows, width):
    return len(eliminated(rows, width, False)[1])


def determinant_of(rows):
    size = len(rows)
    _, pivots, _, worth = eliminated(rows, size, False)
    return worth if len(pivots) == size else 0


def beside_identity(rows):
    size = len(rows)
    return [list(row) + [1 if place == at else 0 for place in range(size)] for at, row in enumerate(rows)]


def adjugate_of(rows):
    """The adjugate of a square matrix."""
    size = len(rows)
    steps, pivots, left, worth = eliminated(beside_identity(rows), size, True)
    if len(pivots) == size:
        return [[worth * part // row[column] for part in row[size:]] for row, column in zip(steps, pivots)]
    if len(pivots) < size - 1:
        return [[0] * size for _ in range(size)]
    return low_adjugate(rows, steps, pivots, left[0][size:])


def low_adjugate(rows, steps, pivots, left):
    """The adjugate of a matrix with one column, free, that is no pivot.

    The matrix times it, and it times the matrix, are 0: so its columns are multiples of the kernel, its rows
    are multiples of the sum of rows that is 0, left, and one minor tells all of it.
    """
    size = len(rows)
    free = [column for column in range(size) if column not in pivots][0]
    at = [place for place in range(size) if left[place]][0]
    minor = determinant_of([row[:free] + row[free + 1:] for row in rows[:at] + rows[at + 1:]])
    cofactor = -minor if (at + free) % 2 else minor
    free_row = [cofactor * part // left[at] for part in left]
    places = {column: number for number, column in enumerate(pivots)}
    found = []
    for column in range(size):
        if column == free:
            found.append(free_row)
        else:
            step = steps[places[column]]
            found.append([-step[free] * part // step[column] for part in free_row])
    return found
