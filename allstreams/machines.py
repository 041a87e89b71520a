"""Machines: states that are changed, and lanes that are told, turn by turn."""

from allstreams.checks import is_integer, is_list, need_list, need_whole
from allstreams.errors import BadValue
from allstreams.matrices import blocks, need_matrix, part_of, zeros
from allstreams.ratios import Ratio, as_ratio, is_ratio, ratio_list
from allstreams.wholes import whole_parts


class Machine:
    """Each turn it takes a column u, tells c * s + d * u, and makes a * s + b * u of its states s."""

    def __init__(self, a, b, c, d, start, ins, outs):
        need_size(a, None, None)
        if a.height != a.width:
            raise BadValue(a)
        need_size(b, a.height, None)
        need_size(c, None, a.height)
        need_size(d, c.height, b.width)
        states = ratio_list(start)
        if len(states) != a.height:
            raise BadValue(start)
        need_lanes(ins, b.width)
        need_lanes(outs, c.height)
        self.a = a
        self.b = b
        self.c = c
        self.d = d
        self.start = tuple(states)
        self.ins = tuple(ins)
        self.outs = tuple(outs)

    def __eq__(self, other):
        if not isinstance(other, Machine) or self.ins != other.ins or self.outs != other.outs:
            return False
        if self.start != other.start or self.a != other.a or self.b != other.b:
            return False
        return self.c == other.c and self.d == other.d

    def size(self):
        return self.a.height

    def answer(self, turn):
        need_whole(turn)
        if turn == 0:
            return self.d
        return self.c * self.a.power(turn - 1) * self.b

    def run(self, columns):
        for column in need_list(columns):
            need_column(column, self.b.width)
        rows = [[*row, *beside] for row, beside in zip(self.c.rows + self.a.rows, self.d.rows + self.b.rows)]
        wholes = [whole_parts(row) for row in rows]
        told = []
        states = self.start
        for column in columns:
            sums = row_sums(wholes, [*states, *[as_ratio(item) for item in column]])
            told.append(sums[:self.c.height])
            states = sums[self.c.height:]
        return told

    def at_rest(self):
        return Machine(self.a, self.b, self.c, self.d, [0] * self.a.height, self.ins, self.outs)

    def over(self, turns):
        if not is_integer(turns) or turns < 1:
            raise BadValue(turns)
        answers = first_answers(self, turns)
        nothing = zeros(self.d.height, self.d.width)
        columns, rows = [self.b], [self.c]
        for _ in range(turns - 1):
            columns = [self.a * columns[0], *columns]
            rows = [*rows, rows[-1] * self.a]
        grid = [[answers[row - at] if row >= at else nothing for at in range(turns)] for row in range(turns)]
        ins, outs = lane_order(self.ins, turns), lane_order(self.outs, turns)
        states = list(range(self.a.height))
        return Machine(
            self.a.power(turns), part_of(blocks([columns]), states, ins),
            part_of(blocks([[row] for row in rows]), outs, states), part_of(blocks(grid), outs, ins),
            self.start, [many * turns for many in self.ins], [many * turns for many in self.outs],
        )


def need_size(matrix, height, width):
    """A Matrix of this height and width, where they are told."""
    need_matrix(matrix)
    if height is not None and matrix.height != height or width is not None and matrix.width != width:
        raise BadValue(matrix)


def need_lanes(values, many):
    """Integers from 1 on, so many together."""
    for value in need_list(values):
        if not is_integer(value) or value < 1:
            raise BadValue(value)
    if sum(values) != many:
        raise BadValue(values)


def need_column(column, many):
    """So many ratios; they are looked at as a whole."""
    if not is_list(column) or len(column) != many or not all([is_ratio(item) for item in column]):
        raise BadValue(column)


def need_machine(value):
    if not isinstance(value, Machine):
        raise BadValue(value)


def row_sums(wholes, column):
    """The products of rows, told as integers and a bottom, and a column of Ratios."""
    parts, bottom = whole_parts(column)
    return [Ratio(sum([one * two for one, two in zip(row, parts)]), bottom * below) for row, below in wholes]


def first_answers(machine, many):
    """The answers with numbers below many."""
    answers = [machine.d][:many]
    columns = machine.b
    while len(answers) < many:
        answers.append(machine.c * columns)
        columns = machine.a * columns
    return answers


def lane_order(lanes, turns):
    """The lanes of several turns, those of a turn behind those of the turn ahead, in the order in which they belong
    to ins or outs over these turns."""
    whole = sum(lanes)
    order = []
    first = 0
    for many in lanes:
        order = order + [turn * whole + first + lane for turn in range(turns) for lane in range(many)]
        first += many
    return order
