"""Machines that do the same with as few states as can be, in whatever states come first."""

from allstreams.machines import Machine
from allstreams.matrices import Matrix, blocks, part_of
from allstreams.remainders import modulus_of
from allstreams.spaces import at_places, column_space, row_space
from allstreams.sweeping import Sweep, filled_columns, line_after
from allstreams.wholes import whole_parts


def given_columns(machine):
    """What the in lanes add to the states, and beside it what these are at first."""
    return blocks([[machine.b, column_of(machine.start)]])


def column_of(items):
    return Matrix([[item] for item in items], 1)


def shortest(machine):
    """A machine that does the same: none of its states are unreached, none unseen."""
    short = machine
    if not is_reached(short):
        space = column_space(given_columns(short), short.a)
        places, whole = list(space.turned().pivots()), list(range(space.width))
        start = [short.start[place] for place in places]
        short = Machine(
            part_of(short.a * space, places, whole), part_of(short.b, places, list(range(short.b.width))),
            short.c * space, short.d, start, short.ins, short.outs,
        )
    if not is_spanned(short.c, short.a):
        seen = row_space(short.c, short.a)
        pivots = list(seen.pivots())
        start = [row[0] for row in (seen * column_of(short.start)).rows]
        short = Machine(
            at_places(seen * short.a, pivots), seen * short.b, at_places(short.c, pivots), short.d, start, short.ins,
            short.outs,
        )
    return short


def is_reached(machine):
    return is_spanned(given_columns(machine).turned(), machine.a.turned())


def is_spanned(rows, matrix):
    """Whether all rows are sums of multiples of these rows, these times the matrix, and so on, as a modulus tells.

    If it tells so, they are; but it may fail to see it.
    """
    many = matrix.width
    columns, _ = filled_columns(matrix)
    sweep = Sweep(modulus_of(0))
    waiting = [whole_parts(row)[0] for row in rows.rows]
    try:
        while waiting and len(sweep.found) < many:
            coming = []
            for parts in waiting:
                rest, shares = sweep.swept(parts)
                if any(rest):
                    sweep.take(rest, shares)
                    coming.append(sweep.found[-1][1])
            waiting = [line_after((parts, 1), columns, 1)[0] for parts in coming]
    except ZeroDivisionError:
        return False
    return len(sweep.found) == many


def independent_labels(c, a):
    """The labels, pairs (turn, lane), of rows c, c * a and so on, as many as there are states, no row of them a sum of
    multiples of the others. None of the states is unseen."""
    attempt = 0
    labels = labels_by(c, a, modulus_of(attempt))
    while len(labels) < a.width:
        attempt += 1
        labels = labels_by(c, a, modulus_of(attempt))
    return labels


def labels_by(c, a, modulus):
    """The labels of the rows that are fresh by the modulus; none if it is of no use."""
    columns, _ = filled_columns(a)
    sweep = Sweep(modulus)
    labels = []
    coming = [(lane, whole_parts(row)[0]) for lane, row in enumerate(c.rows)]
    turn = 0
    try:
        while coming:
            kept = []
            for lane, row in coming:
                rest, shares = sweep.swept(row)
                if any(rest):
                    sweep.take(rest, shares)
                    labels.append((turn, lane))
                    kept.append((lane, [part % modulus for part in line_after((row, 1), columns, 1)[0]]))
            coming = kept
            turn += 1
    except ZeroDivisionError:
        return []
    return labels
