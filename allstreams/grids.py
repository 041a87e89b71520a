"""What matrices of ratios, of polys and of quotients have in common: rows of entries."""

from allstreams.checks import is_whole
from allstreams.errors import BadValue


def told_width(rows, told, width):
    """The width of the rows told by the rows that were passed, or the width that was passed with them."""
    lengths = [len(row) for row in told]
    if lengths and min(lengths) != max(lengths):
        raise BadValue(rows)
    if width is None:
        return lengths[0] if lengths else 0
    if not is_whole(width) or (lengths and width != lengths[0]):
        raise BadValue(width)
    return width


def same_size(one, other):
    return one.height == other.height and one.width == other.width


def added_rows(one, other):
    return [[left + right for left, right in zip(row, beside)] for row, beside in zip(one, other)]


def less_rows(one, other):
    return [[left - right for left, right in zip(row, beside)] for row, beside in zip(one, other)]


def scaled_rows(rows, factor):
    return [[entry * factor for entry in row] for row in rows]


def columns_of(rows, width):
    """The columns as rows."""
    return [[row[column] for row in rows] for column in range(width)]


def identity_rows(size):
    return [[1 if row == column else 0 for column in range(size)] for row in range(size)]


def multiplied_rows(rows, columns):
    """The product of rows and columns of integers."""
    return [[sum([left * right for left, right in zip(row, column)]) for column in columns] for row in rows]


def is_level(line):
    """Whether there are matrices in a list, all of one height."""
    return len(line) > 0 and all([one.height == line[0].height for one in line])


def need_blocks(grid):
    """Lists of matrices, each of one height: all as long as each other, those below one another of one width."""
    if len(grid) == 0:
        raise BadValue(grid)
    widths = [one.width for one in grid[0]]
    for line in grid:
        if [one.width for one in line] != widths:
            raise BadValue(grid)


def block_rows(grid):
    """The rows of the matrix made of these."""
    return [[entry for one in line for entry in one.rows[place]] for line in grid for place in range(line[0].height)]


def block_width(grid):
    return sum([one.width for one in grid[0]])
