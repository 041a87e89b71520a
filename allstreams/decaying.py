"""How much all states to come of a machine that is left alone add up to, as squares.

The matrix p with p less turned a * p * a equal to a matrix is a sum without an end. It is told by a poly that makes 0
of a. Let A be a times the bottom of all entries and q the square of this bottom: then q * p less turned A * p * A is q
times the matrix. For commuting x and y, and a poly f of degree n with f(y) = 0, x to the power n times f(q / x) is
q - x * y times a sum of products of powers; here x is to multiply by turned A from the left, y by A from the right.
"""

from math import gcd

from allstreams.fresh import row_solved
from allstreams.grids import columns_of
from allstreams.matrices import Matrix
from allstreams.quotients import powers_of
from allstreams.ratios import Ratio
from allstreams.sweeping import filled_columns
from allstreams.wholes import content, shared_bottom, whole_parts


def squares_to_come(a, poly, given):
    """The Matrix p with p - turned a * p * a = given, a symmetric one, as rows of integers and a bottom.

    The poly is the determinant of 1 - z * a as a Poly in z; none of its roots has a size up to 1.
    """
    columns, bottom = filled_columns(a)
    square = bottom * bottom
    parts = whole_poly(poly, bottom, a.height)
    scale = shared_bottom([entry for row in given.rows for entry in row])
    whole = [[entry.top * (scale // entry.bottom) for entry in row] for row in given.rows]
    total = summed_powers(columns, parts, square, whole)
    turned = [part * power for part, power in zip(parts, powers_of(square, len(parts)))][::-1]
    inverse, below = whole_parts(inverse_by(turned, parts))
    return times_poly(columns, inverse, total), below * scale


def told_anew(rows, bottom, change):
    """The Matrix turned change * p * change of a symmetric one that is told by rows of integers and a bottom."""
    columns, below = filled_columns(change)
    both = times_columns(columns_of(times_columns(rows, columns), change.width), columns)
    bottom = bottom * below * below
    shared = bottom
    for row in both:
        shared = gcd(shared, content(row))
    # Great ratios are dear, so each is only made once.
    half = [[Ratio(part // shared, bottom // shared) for part in row[:place + 1]] for place, row in enumerate(both)]
    places = list(range(change.width))
    return Matrix([[half[max(row, column)][min(row, column)] for column in places] for row in places], change.width)


def whole_poly(poly, bottom, size):
    """The parts of the poly with last part 1 whose roots are those of a, so many, times the bottom; integers."""
    powers = powers_of(bottom, size + 1)
    told = [poly.part(number) for number in range(size + 1)]
    return [part.top * power // part.bottom for part, power in zip(told, powers)][::-1]


def summed_powers(columns, parts, square, given):
    """The turned sum of products of powers, applied to q times the integer rows given."""
    whole = [[0 for _ in row] for row in given]
    total = [list(row) for row in whole]
    power = square
    for part in parts[1:]:
        # A symmetric one: so both sides are multiplied by turning it between.
        both = times_columns(columns_of(times_columns(whole, columns), len(columns)), columns)
        whole = less_or_more(both, given, power)
        power = power * square
        total = less_or_more(times_columns(total, columns), whole, part)
    return total


def inverse_by(poly, other):
    """The parts of the poly that times this one leaves 1 by the other one, whose last part is 1: ratios.

    There has to be one; here there is, as no product of two of the roots is q.
    """
    size = len(other) - 1
    rows = [left_by(poly, other)]
    while len(rows) < size:
        rows.append(left_by([0, *rows[-1]], other))
    return row_solved(rows[:size], [1, *[0 for _ in range(size)]][:size])


def left_by(poly, other):
    """What is left by a poly with last part 1: as many parts as its degree tells."""
    size = len(other) - 1
    left = list(poly)
    while len(left) > size:
        times = left.pop()
        place = len(left) - size
        left = left[:place] + [one - times * two for one, two in zip(left[place:], other)]
    return left + [0 for _ in range(size - len(left))]


def times_columns(rows, columns):
    """The product of integer rows and a matrix told by the filled parts of its columns."""
    return [[sum([row[place] * part for place, part in column]) for column in columns] for row in rows]


def less_or_more(rows, others, times):
    """The rows and so many times the others."""
    if times == 0:
        return rows
    return [[one + times * two for one, two in zip(row, other)] for row, other in zip(rows, others)]


def times_poly(columns, parts, rows):
    """The product of the rows and the poly of the matrix with these columns."""
    total = [[0 for _ in row] for row in rows]
    for part in parts[::-1]:
        total = less_or_more(times_columns(total, columns), rows, part)
    return total
