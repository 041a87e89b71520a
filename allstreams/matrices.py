"""Matrices of ratios."""

from allstreams.checks import is_list, need_list, need_places, need_whole
from allstreams.elimination import determinant_of, eliminated, rank_of
from allstreams.errors import BadValue, NotSquare, Singular
from allstreams.grids import added_rows, block_rows, block_width, columns_of, is_level, less_rows
from allstreams.grids import multiplied_rows, need_blocks, same_size, scaled_rows, told_width
from allstreams.marks import Mark
from allstreams.powers import powered
from allstreams.ratios import Ratio, as_ratio, is_ratio
from allstreams.wholes import whole_parts


class Matrix:
    """Rows of Ratios, all as long as the width tells."""

    def __init__(self, rows, width=None):
        told = [ratio_row(row) for row in need_list(rows)]
        self.width = told_width(rows, told, width)
        self.height = len(told)
        self.rows = tuple(told)
        self.mark = Mark(("Ratio",))

    def __eq__(self, other):
        return isinstance(other, Matrix) and self.width == other.width and self.rows == other.rows

    def __add__(self, other):
        need_like_matrix(self, other)
        return Matrix(added_rows(self.rows, other.rows), self.width)

    def __sub__(self, other):
        need_like_matrix(self, other)
        return Matrix(less_rows(self.rows, other.rows), self.width)

    def __mul__(self, other):
        if is_ratio(other):
            return Matrix(scaled_rows(self.rows, other), self.width)
        if not isinstance(other, Matrix) or other.height != self.width:
            raise BadValue(other)
        rows = [whole_parts(row) for row in self.rows]
        columns = [whole_parts(column) for column in columns_of(other.rows, other.width)]
        sums = multiplied_rows([row for row, _ in rows], [column for column, _ in columns])
        return Matrix([
            [Ratio(total, bottom * below) for total, (_, below) in zip(line, columns)]
            for line, (_, bottom) in zip(sums, rows)
        ], other.width)

    def __rmul__(self, other):
        return self * as_ratio(other)

    def __neg__(self):
        return self * -1

    def __str__(self):
        if self.height == 0 or self.width == 0:
            return f"[{self.height} x {self.width}]"
        lines = [" ".join([str(entry) for entry in row]) for row in self.rows]
        text = "; ".join(lines)
        return f"[{text}]"

    def turned(self):
        return Matrix(columns_of(self.rows, self.width), self.height)

    def rank(self):
        return rank_of(whole_rows(self.rows), self.width)

    def pivots(self):
        return tuple(eliminated(whole_rows(self.rows), self.width, False)[1])

    def echelon(self):
        steps, pivots, _, _ = eliminated(whole_rows(self.rows), self.width, True)
        return Matrix(by_pivots(steps, pivots), self.width)

    def kernel(self):
        steps, pivots, _, _ = eliminated(whole_rows(self.rows), self.width, True)
        free = [column for column in range(self.width) if column not in pivots]
        lines = {column: [-row[place] for place in free] for row, column in zip(by_pivots(steps, pivots), pivots)}
        for column in free:
            lines[column] = [1 if place == column else 0 for place in free]
        return Matrix([lines[column] for column in range(self.width)], len(free))

    def solved(self, other):
        if not isinstance(other, Matrix) or other.height != self.height:
            raise BadValue(other)
        both = [[*row, *beside] for row, beside in zip(self.rows, other.rows)]
        steps, pivots, left, _ = eliminated(whole_rows(both), self.width, True)
        if any([part != 0 for row in left for part in row[self.width:]]):
            return None
        lines = {column: row[self.width:] for row, column in zip(by_pivots(steps, pivots), pivots)}
        return Matrix([lines.get(column, [0] * other.width) for column in range(self.width)], other.width)

    def power(self, exponent):
        need_whole(exponent)
        need_square(self)
        return powered(self, exponent, identity(self.height))

    def determinant(self):
        need_square(self)
        rows = [whole_parts(row) for row in self.rows]
        bottom = 1
        for _, below in rows:
            bottom = bottom * below
        return Ratio(determinant_of([row for row, _ in rows]), bottom)

    def inverse(self):
        need_square(self)
        both = [[*row, *beside] for row, beside in zip(self.rows, identity(self.height).rows)]
        steps, pivots, _, _ = eliminated(whole_rows(both), self.width, True)
        if len(pivots) < self.height:
            raise Singular()
        return Matrix([row[self.width:] for row in by_pivots(steps, pivots)], self.width)


def ratio_row(row):
    """A row of Ratios; it is looked at as a whole."""
    if not is_list(row):
        raise BadValue(row)
    if all([isinstance(entry, Ratio) for entry in row]):
        return tuple(row)
    if not all([is_ratio(entry) for entry in row]):
        raise BadValue(row)
    return tuple([as_ratio(entry) for entry in row])


def whole_rows(rows):
    """Rows of integers, multiples of these."""
    return [whole_parts(row)[0] for row in rows]


def by_pivots(steps, pivots):
    """Rows of Ratios, multiples of these with 1 at the pivots."""
    return [[Ratio(part, row[column]) for part in row] for row, column in zip(steps, pivots)]


def need_matrix(value):
    if not isinstance(value, Matrix):
        raise BadValue(value)


def need_like_matrix(matrix, other):
    """The other one is a Matrix of the size of this one."""
    if not isinstance(other, Matrix) or not same_size(matrix, other):
        raise BadValue(other)


def need_square(matrix):
    if matrix.height != matrix.width:
        raise NotSquare()


def identity(size):
    need_whole(size)
    one, nought = Ratio(1), Ratio(0)
    return Matrix([[one if place == row else nought for place in range(size)] for row in range(size)], size)


def zeros(height, width):
    need_whole(height)
    need_whole(width)
    nought = Ratio(0)
    return Matrix([[nought for _ in range(width)] for _ in range(height)], width)


def part_of(matrix, rows, columns):
    need_matrix(matrix)
    need_places(rows, matrix.height)
    need_places(columns, matrix.width)
    return Matrix([[matrix.rows[row][column] for column in columns] for row in rows], len(columns))


def blocks(grid):
    for line in need_list(grid):
        if not is_list(line) or not all([isinstance(one, Matrix) for one in line]) or not is_level(line):
            raise BadValue(line)
    need_blocks(grid)
    return Matrix(block_rows(grid), block_width(grid))
