"""The lowest diagonal of a matrix of quotients, and the two reversible matrices that make it."""

from allstreams.errors import BadValue
from allstreams.grids import columns_of, identity_rows
from allstreams.hermite import form_and_relations
from allstreams.polymatrices import PolyMatrix
from allstreams.polyrows import multiplied_polys
from allstreams.polys import Poly, common_paper, quotient_and_rest
from allstreams.quotientmatrices import QuotientMatrix, common_multiple, over_one_bottom, top_over
from allstreams.quotients import Quotient


def lowest_diagonal(matrix):
    need_quotient_matrix(matrix)
    return tuple(lowered(matrix)[1])


def diagonal_paper(matrix):
    need_quotient_matrix(matrix)
    left, _, columns = lowered(matrix)
    return PolyMatrix(left, matrix.height), PolyMatrix(columns_of(columns, matrix.width), matrix.width)


def need_quotient_matrix(value):
    if not isinstance(value, QuotientMatrix):
        raise BadValue(value)


def lowered(matrix):
    """A triple: the rows of the left one, the lowest diagonal, the columns of the right one."""
    left, worths, columns = made_diagonal(matrix)
    for first in range(len(worths)):
        for second in range(first + 1, len(worths)):
            left, worths, columns = put_in_order(left, worths, columns, first, second)
    factors = [worth.top.parts[worth.low()].inverse() for worth in worths]
    worths = [worth * factor for worth, factor in zip(worths, factors)]
    scaled = [[entry * factor for entry in row] for row, factor in zip(left, factors)]
    return scaled + left[len(worths):], worths, columns


def made_diagonal(matrix):
    """The same, without any order in the diagonal: rows and columns are brought into steps by turns.

    Each entry of the diagonal divides more and more in its row and its column, until it divides all of it.
    """
    left = polys_of(identity_rows(matrix.height))
    columns = polys_of(identity_rows(matrix.width))
    rows = matrix.rows
    while True:
        rows, left = stepped(rows, left, matrix.width)
        if is_diagonal(rows):
            break
        turned, columns = stepped(columns_of(rows, matrix.width), columns, matrix.height)
        rows = columns_of(turned, matrix.height)
        if is_diagonal(rows):
            break
    worths = [row[place] for place, row in enumerate(rows[:matrix.width])]
    return left, [worth for worth in worths if worth.top.parts], columns


def polys_of(rows):
    return [[Poly([entry]) for entry in row] for row in rows]


def is_diagonal(rows):
    entries = [(place, column, entry) for place, row in enumerate(rows) for column, entry in enumerate(row)]
    return not any([entry.top.parts and place != column for place, column, entry in entries])


def stepped(rows, left, width):
    """A pair: the rows of Quotients in steps, those of noughts last, and the rows of Polys that lead to them."""
    pairs = [over_one_bottom(column) for column in columns_of(rows, width)]
    bottoms = [bottom for _, bottom in pairs]
    tops = PolyMatrix(columns_of([column for column, _ in pairs], len(rows)), width)
    form, multipliers, relations = form_and_relations(tops)
    steps = [[Quotient(entry, bottom) for entry, bottom in zip(row, bottoms)] for row in form]
    noughts = [[Quotient(0, 1) for _ in range(width)] for _ in relations]
    return steps + noughts, multiplied_polys(multipliers + relations, columns_of(left, len(left)))


def put_in_order(left, worths, columns, first, second):
    """The same, with the common factor of two entries of the diagonal in the place of the first one."""
    bottom = common_multiple([worths[first].bottom, worths[second].bottom])
    one, other = top_over(worths[first], bottom), top_over(worths[second], bottom)
    if not quotient_and_rest(other, one)[1].parts:
        return left, worths, columns
    factor, times, more = common_paper(one, other)
    less_one, less_other = quotient_and_rest(one, factor)[0], quotient_and_rest(other, factor)[0]
    worths = with_both(worths, first, second, [Quotient(factor, bottom), Quotient(one * less_other, bottom)])
    left = with_both(left, first, second, mixed(left[first], left[second], [[times, more], [-less_other, less_one]]))
    sides = [[1, 1], [-more * less_other, times * less_one]]
    return left, worths, with_both(columns, first, second, mixed(columns[first], columns[second], sides))


def mixed(one, other, factors):
    """For each pair of factors the sum of these multiples of two rows."""
    return [[left * times + right * more for left, right in zip(one, other)] for times, more in factors]


def with_both(told, first, second, pair):
    """The list with these two in the two places."""
    new = list(told)
    new[first], new[second] = pair
    return new
