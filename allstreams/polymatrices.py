"""Matrices of polys."""

from allstreams.checks import is_list, need_list, need_whole
from allstreams.elimination import adjugate_of, determinant_of, rank_of
from allstreams.errors import BadValue, NotSquare, Singular
from allstreams.grids import added_rows, block_rows, block_width, columns_of, is_level, less_rows, need_blocks
from allstreams.grids import same_size, scaled_rows, told_width
from allstreams.matrices import Matrix, need_matrix
from allstreams.polyrows import minor_bits, multiplied_polys, packed_rows, poly_from, whole_entries
from allstreams.polys import Poly, as_poly, is_polylike
from allstreams.ratios import as_ratio


class PolyMatrix:
    """Rows of Polys, all as long as the width tells."""

    def __init__(self, rows, width=None):
        told = [poly_row(row) for row in need_list(rows)]
        self.width = told_width(rows, told, width)
        self.height = len(told)
        self.rows = tuple(told)

    def __eq__(self, other):
        return isinstance(other, PolyMatrix) and self.width == other.width and self.rows == other.rows

    def __add__(self, other):
        need_like_poly_matrix(self, other)
        return PolyMatrix(added_rows(self.rows, other.rows), self.width)

    def __sub__(self, other):
        need_like_poly_matrix(self, other)
        return PolyMatrix(less_rows(self.rows, other.rows), self.width)

    def __mul__(self, other):
        if not isinstance(other, PolyMatrix) or other.height != self.width:
            raise BadValue(other)
        return PolyMatrix(multiplied_polys(self.rows, columns_of(other.rows, other.width)), other.width)

    def times(self, poly):
        return PolyMatrix(scaled_rows(self.rows, as_poly(poly)), self.width)

    def turned(self):
        return PolyMatrix(columns_of(self.rows, self.width), self.height)

    def degree(self):
        return max([entry.degree() for row in self.rows for entry in row], default=-1)

    def part(self, power):
        need_whole(power)
        return Matrix([[entry.part(power) for entry in row] for row in self.rows], self.width)

    def worth_at(self, ratio):
        at = as_ratio(ratio)
        return Matrix([[entry.worth_at(at) for entry in row] for row in self.rows], self.width)

    def rank(self):
        most = min(self.height, self.width)
        rows = [whole_entries(row)[0] for row in self.rows]
        # At most places the rank is that of the matrix, at none it is greater: a small one may be enough.
        if rank_of(packed_rows(rows, 3), self.width) == most:
            return most
        return rank_of(packed_rows(rows, minor_bits(rows, most)), self.width)

    def determinant(self):
        need_square(self)
        rows, bottoms = whole_polys(self.rows)
        bits = minor_bits(rows, self.height)
        return poly_from(determinant_of(packed_rows(rows, bits)), bits, product_of(bottoms))

    def adjugate(self):
        need_square(self)
        rows, bottoms = whole_polys(self.rows)
        bits = minor_bits(rows, self.height)
        whole = product_of(bottoms)
        # Column j is made of minors without row j, so without its bottom.
        return PolyMatrix([
            [poly_from(worth, bits, whole // bottom) for worth, bottom in zip(row, bottoms)]
            for row in adjugate_of(packed_rows(rows, bits))
        ], self.width)

    def inverse(self):
        worth = self.determinant()
        if worth.degree() != 0:
            raise Singular()
        return self.adjugate().times(worth.parts[0].inverse())


def poly_row(row):
    """A row of Polys; it is looked at as a whole."""
    if not is_list(row) or not all([is_polylike(entry) for entry in row]):
        raise BadValue(row)
    return tuple([as_poly(entry) for entry in row])


def whole_polys(rows):
    """A pair: the rows as lists of integers, and the bottoms of the rows."""
    pairs = [whole_entries(row) for row in rows]
    return [row for row, _ in pairs], [bottom for _, bottom in pairs]


def product_of(numbers):
    product = 1
    for number in numbers:
        product = product * number
    return product


def need_poly_matrix(value):
    if not isinstance(value, PolyMatrix):
        raise BadValue(value)


def need_like_poly_matrix(matrix, other):
    """The other one is a PolyMatrix of the size of this one."""
    if not isinstance(other, PolyMatrix) or not same_size(matrix, other):
        raise BadValue(other)


def need_square(matrix):
    if matrix.height != matrix.width:
        raise NotSquare()


def poly_matrix(parts):
    for one in need_list(parts):
        need_matrix(one)
    if len(parts) == 0 or not all([same_size(one, parts[0]) for one in parts]):
        raise BadValue(parts)
    height, width = parts[0].height, parts[0].width
    return PolyMatrix([
        [Poly([one.rows[row][column] for one in parts]) for column in range(width)] for row in range(height)
    ], width)


def poly_blocks(grid):
    for line in need_list(grid):
        if not is_list(line) or not all([isinstance(one, PolyMatrix) for one in line]) or not is_level(line):
            raise BadValue(line)
    need_blocks(grid)
    return PolyMatrix(block_rows(grid), block_width(grid))
