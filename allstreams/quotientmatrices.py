"""Matrices of quotients."""

from allstreams.checks import is_list, need_list, need_whole
from allstreams.errors import AtNought, BadValue, Singular
from allstreams.grids import added_rows, columns_of, less_rows, same_size, scaled_rows, told_width
from allstreams.matrices import Matrix
from allstreams.polymatrices import PolyMatrix
from allstreams.polyrows import multiplied_polys
from allstreams.polys import Poly, factor_of, quotient_and_rest
from allstreams.quotients import Quotient, as_quotient, is_quotientlike
from allstreams.ratios import Ratio


class QuotientMatrix:
    """Rows of Quotients, all as long as the width tells."""

    def __init__(self, rows, width=None):
        told = [quotient_row(row) for row in need_list(rows)]
        self.width = told_width(rows, told, width)
        self.height = len(told)
        self.rows = tuple(told)

    def __eq__(self, other):
        return isinstance(other, QuotientMatrix) and self.width == other.width and self.rows == other.rows

    def __add__(self, other):
        need_like_quotient_matrix(self, other)
        return QuotientMatrix(added_rows(self.rows, other.rows), self.width)

    def __sub__(self, other):
        need_like_quotient_matrix(self, other)
        return QuotientMatrix(less_rows(self.rows, other.rows), self.width)

    def __mul__(self, other):
        if not isinstance(other, QuotientMatrix) or other.height != self.width:
            raise BadValue(other)
        rows = [over_one_bottom(row) for row in self.rows]
        columns = [over_one_bottom(column) for column in columns_of(other.rows, other.width)]
        tops = multiplied_polys([row for row, _ in rows], [column for column, _ in columns])
        return QuotientMatrix([
            [Quotient(top, bottom * below) for top, (_, below) in zip(line, columns)]
            for line, (_, bottom) in zip(tops, rows)
        ], other.width)

    def times(self, quotient):
        return QuotientMatrix(scaled_rows(self.rows, as_quotient(quotient)), self.width)

    def turned(self):
        return QuotientMatrix(columns_of(self.rows, self.width), self.height)

    def rank(self):
        return parted(self)[0].rank()

    def first(self, many):
        need_whole(many)
        lines = [[entry.first(many) for entry in row] for row in self.rows]
        return [Matrix([[parts[number] for parts in line] for line in lines], self.width) for number in range(many)]

    def common_bottom(self):
        return common_multiple([entry.bottom for row in self.rows for entry in row])

    def tops(self):
        bottom = self.common_bottom()
        return PolyMatrix([[top_over(entry, bottom) for entry in row] for row in self.rows], self.width)

    def determinant(self):
        tops, bottoms = parted(self)
        bottom = Poly([1])
        for below in bottoms:
            bottom = bottom * below
        return Quotient(tops.determinant(), bottom)

    def inverse(self):
        tops, bottoms = parted(self)
        worth = tops.determinant()
        if not worth.parts:
            raise Singular()
        if worth.low() > 0:
            raise AtNought()
        return QuotientMatrix([
            [Quotient(entry * bottom, worth) for entry, bottom in zip(row, bottoms)] for row in tops.adjugate().rows
        ], self.width)


def quotient_row(row):
    """A row of Quotients; it is looked at as a whole."""
    if not is_list(row) or not all([is_quotientlike(entry) for entry in row]):
        raise BadValue(row)
    return tuple([as_quotient(entry) for entry in row])


def common_multiple(bottoms):
    """The Poly of the lowest degree that all of these divide; part 0 of each, and its own, is 1."""
    multiple = Poly([1])
    seen = []
    for bottom in bottoms:
        if bottom not in seen:
            seen.append(bottom)
            multiple = multiple * quotient_and_rest(bottom, factor_of(multiple, bottom))[0]
    start = multiple.parts[0]
    return multiple * Ratio(start.bottom, start.top)


def top_over(entry, bottom):
    """The top of a Quotient over a multiple of its bottom."""
    return entry.top * quotient_and_rest(bottom, entry.bottom)[0]


def over_one_bottom(entries):
    """A pair: the tops of a row or a column over one bottom, and this."""
    bottom = common_multiple([entry.bottom for entry in entries])
    return [top_over(entry, bottom) for entry in entries], bottom


def parted(matrix):
    """A pair: a PolyMatrix, and for each of its rows the bottom by which it is to be divided, part 0 of it 1."""
    pairs = [over_one_bottom(row) for row in matrix.rows]
    return PolyMatrix([row for row, _ in pairs], matrix.width), [bottom for _, bottom in pairs]


def need_like_quotient_matrix(matrix, other):
    """The other one is a QuotientMatrix of the size of this one."""
    if not isinstance(other, QuotientMatrix) or not same_size(matrix, other):
        raise BadValue(other)
