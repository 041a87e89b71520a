"""How late the ins of a turn are told by the outs, whatever the ins behind it are.

States are told by what the out lanes would give in which turn if only zeros were given: by the fresh rows of the table,
of which only those are looked at that are needed. A line is a pair of integers and a bottom.
"""

from math import lcm

from allstreams.elimination import beside_identity, eliminated
from allstreams.fresh import Sight
from allstreams.remainders import modulus_of
from allstreams.sweeping import filled_columns, line_after
from allstreams.wholes import primitive, whole_parts


def least_known(machine):
    """The least number of turns behind a turn with which its ins are told, None if they never are."""
    lanes = machine.b.width
    given = [whole_parts(row) for row in machine.d.rows]
    if kernel_of([parts for parts, _ in given], lanes) is None:
        return 0
    attempt = 0
    while True:
        try:
            return Waiting(machine, given, modulus_of(attempt)).turns_needed()
        except ZeroDivisionError:
            attempt += 1


def kernel_of(rows, lanes):
    """Multipliers of rows of integers with which they add up to 0; None if the rank is the number of lanes."""
    _, pivots, left, _ = eliminated(beside_identity(rows), lanes, False)
    return None if len(pivots) == lanes else [row[lanes:] for row in left]


def summed(multiples, lines, width):
    """The line that is the sum of these multiples, integers, of lines."""
    used = [(times, line) for times, line in zip(multiples, lines) if times]
    below = 1
    for _, (_, bottom) in used:
        below = lcm(below, bottom)
    total = [0 for _ in range(width)]
    for times, (parts, bottom) in used:
        factor = times * (below // bottom)
        total = [one + factor * two for one, two in zip(total, parts)]
    return total, below


class Waiting:
    """Rows of integers for the states, told by fresh rows, from which the outs can be kept at 0 for some turns."""

    def __init__(self, machine, given, modulus):
        self.lanes = machine.b.width
        self.outs = list(range(machine.c.height))
        self.given = given
        self.filled, self.bottom = filled_columns(machine.b)
        self.sight = Sight(machine.c, machine.a, modulus)
        self.ends = {}

    def turns_needed(self):
        rows, turns = [], 0
        while True:
            answers = [line_after(line, self.filled, self.bottom) for line in self.sight.seen]
            lows = self.given + [summed(row, answers, self.lanes) for row in rows]
            kernel = kernel_of([parts for parts, _ in lows], self.lanes)
            if kernel is None:
                return turns
            # The multipliers are those of integers, so what they stand for is that times the bottoms.
            kernel = [[times * bottom for times, (_, bottom) in zip(line, lows)] for line in kernel]
            ahead = self.rows_ahead(rows, kernel)
            if len(ahead) == len(rows):
                return None
            rows, turns = ahead, turns + 1

    def rows_ahead(self, rows, kernel):
        """The rows for one turn more; in echelon form they stay short."""
        labels = list(self.sight.labels)
        self.sight.look()
        width = len(self.sight.labels)
        later = [self.line_of((turn + 1, lane), width) for turn, lane in labels]
        states = [self.line_of((0, lane), width) for lane in self.outs] + [summed(row, later, width) for row in rows]
        made = [primitive(summed(line, states, width)[0]) for line in kernel]
        return [primitive(row) for row in eliminated(made, width, True)[0]]

    def line_of(self, label, width):
        """What stands for a row of the table, so many of whose fresh rows are looked at."""
        if label in self.sight.labels:
            place = self.sight.labels.index(label)
            return [1 if at == place else 0 for at in range(width)], 1
        lane = label[1]
        if lane not in self.ends:
            self.ends[lane] = whole_parts(self.sight.multiples(lane))
        parts, bottom = self.ends[lane]
        return [*parts, *[0 for _ in range(width - len(parts))]], bottom
