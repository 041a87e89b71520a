"""The fresh rows of the table of a machine, found by a great modulus and then proved."""

from allstreams.lifting import solved_square
from allstreams.machines import Machine
from allstreams.matrices import Matrix, blocks, part_of
from allstreams.remainders import modulus_of, rests_of
from allstreams.spaces import Steps, at_places, column_space, row_space, times_columns, whole_columns
from allstreams.wholes import whole_parts


def shortest(machine):
    """A machine that does the same with as few states as can be: none of them unreached, none unseen."""
    start = Matrix([[item] for item in machine.start], 1)
    space = column_space(blocks([[start, machine.b]]), machine.a)
    places, whole = list(space.turned().pivots()), list(range(space.width))
    a, c = part_of(machine.a * space, places, whole), machine.c * space
    b = part_of(machine.b, places, list(range(machine.b.width)))
    seen = row_space(c, a)
    pivots = list(seen.pivots())
    states = seen * part_of(start, places, [0])
    return Machine(
        at_places(seen * a, pivots), seen * b, at_places(c, pivots), machine.d, [row[0] for row in states.rows],
        machine.ins, machine.outs,
    )


class Fresh:
    """Rows c, c * a, c * a * a and so on that are no sums of multiples of rows ahead of them.

    labels tells their places, pairs (turn, lane); rows are the rows. For each lane the row of ends tells as which
    multiples of these its first row that is not fresh is their sum.
    """

    def __init__(self, labels, rows, ends):
        self.labels = labels
        self.rows = rows
        self.ends = ends


def fresh_rows(c, a):
    """The Fresh of a machine none of whose states are unseen: there are as many fresh rows as states."""
    attempt = 0
    found = None
    while found is None:
        found = fresh_by(c, a, modulus_of(attempt))
        attempt += 1
    return found


def fresh_by(c, a, modulus):
    """The Fresh as this modulus tells it, None if the modulus is of no use.

    Rows that are fresh by a prime that divides the modulus are so; that the others are not is proved by ends.
    """
    labels = labels_by(c, a, modulus)
    if len(labels) < a.width:
        return None
    fresh, last = exact_rows(c, a, labels)
    ends = solved_square(fresh.turned(), last.turned()).turned()
    for lane, row in enumerate(ends.rows):
        place = (len([label for label in labels if label[1] == lane]), lane)
        if any([part.top != 0 and label > place for part, label in zip(row, labels)]):
            return None
    return Fresh(labels, fresh, ends)


def independent_labels(c, a):
    """The labels of rows as of fresh ones, as many as there are states, no row a sum of multiples of the others."""
    attempt = 0
    labels = labels_by(c, a, modulus_of(attempt))
    while len(labels) < a.width:
        attempt += 1
        labels = labels_by(c, a, modulus_of(attempt))
    return labels


def labels_by(c, a, modulus):
    """The labels of the rows that are fresh by the modulus; none if it is of no use."""
    columns, _ = whole_columns(a)
    steps = Steps(modulus)
    labels = []
    coming = [(lane, rests_of(whole_parts(row)[0], modulus)) for lane, row in enumerate(c.rows)]
    turn = 0
    try:
        while coming:
            kept = []
            for lane, row in coming:
                rest = steps.rest(row)
                if any(rest):
                    steps.add_rest(rest)
                    labels.append((turn, lane))
                    kept.append((lane, times_columns(row, columns, modulus)))
            coming = kept
            turn += 1
    except ZeroDivisionError:
        return []
    return labels


def exact_rows(c, a, labels):
    """The rows of these labels, and for each lane the first one behind them; two Matrices."""
    fresh, ends = {}, {}
    lanes, rows = list(range(c.height)), c
    turn = 0
    while lanes:
        kept = []
        for place, lane in enumerate(lanes):
            if (turn, lane) in labels:
                fresh[(turn, lane)] = rows.rows[place]
                kept.append(place)
            else:
                ends[lane] = rows.rows[place]
        rows = part_of(rows, kept, list(range(rows.width))) * a
        lanes = [lanes[place] for place in kept]
        turn += 1
    found = Matrix([fresh[label] for label in labels], a.width)
    return found, Matrix([ends[lane] for lane in range(c.height)], a.width)
