"""The fresh rows of the table of a machine, found by a great modulus and then proved; integers tell the rows."""

from math import lcm

from allstreams.grids import columns_of
from allstreams.ratios import Ratio
from allstreams.remainders import inverse_of, modulus_of, shared_bottom_of, whole_from
from allstreams.sweeping import Sweep, filled_columns, line_after
from allstreams.wholes import whole_parts


class Sight:
    """Rows c, c * a, c * a * a and so on, turn by turn, as far as they have been looked at.

    labels tells the places, pairs (turn, lane), of those that are no sums of multiples of rows ahead of them; seen are
    these rows as lines, pairs of integers and a bottom. They are found by a modulus: rows that are fresh by a prime
    that divides it are so; that the others are not is proved where it is told. A modulus that is of no use:
    ZeroDivisionError.
    """

    def __init__(self, c, a, modulus):
        self.filled, self.bottom = filled_columns(a)
        self.sweep = Sweep(modulus)
        self.coming = [(lane, whole_parts(row)) for lane, row in enumerate(c.rows)]
        self.lasts = {}
        self.turn = 0
        self.labels = []
        self.seen = []

    def look(self):
        """Looks at the rows of the next turn."""
        if self.turn > 0:
            self.coming = [(lane, line_after(line, self.filled, self.bottom)) for lane, line in self.coming]
        kept = []
        for lane, line in self.coming:
            rest, shares = self.sweep.swept(line[0])
            if any(rest):
                self.sweep.take(rest, shares)
                self.labels.append((self.turn, lane))
                self.seen.append(line)
                kept.append((lane, line))
            else:
                self.lasts[lane] = (line, shares)
        self.coming = kept
        self.turn += 1

    def multiples(self, lane):
        """As which multiples of the first lines the first row of a lane that is not fresh is their sum: Ratios."""
        last, shares = self.lasts[lane]
        return lifted(self.sweep, self.seen, last, shares)


def lifted(sweep, lines, last, shares):
    """As which multiples of the first lines a line is their sum that has, by the modulus, these shares of their steps.

    The digits of the multiples to the base of the modulus are found one behind another. ZeroDivisionError if it is no
    such sum, though the modulus tells so.
    """
    many, modulus = len(shares), sweep.modulus
    columns = columns_of([parts for parts, _ in lines[:many]], len(last[0]))
    rest, total = last[0], [0 for _ in shares]
    power, digits = 1, 0
    while True:
        digit = sweep.multiples(shares)
        total = [one + two * power for one, two in zip(total, digit)]
        power, digits = power * modulus, digits + 1
        # Trying is dear: so it is tried with 1, 2, 4, 8 digits and so on.
        if digits & (digits - 1) == 0:
            found = multiples_from(lines, last, total, power)
            if found is not None:
                return found
        rest = [(one - sum([times * part for times, part in zip(digit, column)])) // modulus
                for one, column in zip(rest, columns)]
        left, shares = sweep.swept(rest)
        if any(left) or any(shares[many:]):
            raise ZeroDivisionError("rows that are fresh are not seen by this modulus")


def row_solved(rows, row):
    """As which multiples of integer rows a row is their sum; they are as many as they are long, and none of them is a
    sum of multiples of the others."""
    attempt = 0
    found = None
    while found is None:
        found = row_solved_by(rows, row, Sweep(modulus_of(attempt)))
        attempt += 1
    return found


def row_solved_by(rows, row, sweep):
    """The same, None if the modulus is of no use."""
    try:
        for line in rows:
            rest, shares = sweep.swept(line)
            if not any(rest):
                return None
            sweep.take(rest, shares)
        return lifted(sweep, [(line, 1) for line in rows], (row, 1), sweep.swept(row)[1])
    except ZeroDivisionError:
        return None


def multiples_from(lines, last, rests, modulus):
    """The multiples of the first lines whose sum is the last one; None if the modulus is not great enough for them.

    Those of their integers for the integers of the last one leave these rests.
    """
    scale = 1 if last[1] == 1 else inverse_of(last[1] % modulus, modulus)
    told = [rest * scale * bottom % modulus for rest, (_, bottom) in zip(rests, lines)]
    shared = shared_bottom_of(told, modulus)
    if shared is None:
        return None
    tops = whole_from(told, shared, modulus)
    nought = Ratio(0)
    return [Ratio(top, shared) if top else nought for top in tops] if is_sum(last, tops, shared, lines) else None


def is_sum(last, tops, shared, lines):
    """Whether the line is the sum of these multiples, integers and a bottom, of the first lines."""
    used = [(top, line) for top, line in zip(tops, lines) if top]
    below = 1
    for _, (_, bottom) in used:
        below = lcm(below, bottom)
    total = [0 for _ in last[0]]
    for top, (parts, bottom) in used:
        times = top * last[1] * (below // bottom)
        total = [one + times * two for one, two in zip(total, parts)]
    return total == [part * shared * below for part in last[0]]


class Fresh:
    """The labels of the fresh rows, these rows as lines, and for each lane as which multiples of them its first row
    that is not fresh is their sum: a list of Ratios, as many as there are fresh rows."""

    def __init__(self, labels, seen, ends):
        self.labels = labels
        self.seen = seen
        self.ends = ends


def fresh_rows(c, a):
    attempt = 0
    found = None
    while found is None:
        found = fresh_by(c, a, modulus_of(attempt))
        attempt += 1
    return found


def fresh_by(c, a, modulus):
    """The Fresh as this modulus tells it, None if the modulus is of no use."""
    try:
        sight = Sight(c, a, modulus)
        while sight.coming:
            sight.look()
        ends = [sight.multiples(lane) for lane in range(c.height)]
    except ZeroDivisionError:
        return None
    many = len(sight.labels)
    return Fresh(sight.labels, sight.seen, [[*end, *[Ratio(0) for _ in range(many - len(end))]] for end in ends])
