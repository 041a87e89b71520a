"""States of a machine from which its outs can be kept at 0, told by rows that are 0 for just these states."""

from allstreams.least import least_machine
from allstreams.matrices import blocks, zeros
from allstreams.spaces import at_places


def answering(machine):
    """A machine with the same answers, whose states tell what the lanes would give later: so rows stay short."""
    return least_machine(machine.at_rest())


def no_rows(machine):
    """The rows for all states."""
    return zeros(0, machine.size())


def given_rows(machine, rows):
    """What the ins of a turn add to the outs of this turn, and to what the rows tell of the states behind it."""
    return blocks([[machine.d], [rows * machine.b]])


def state_rows(machine, rows):
    """What the states ahead of a turn add to these."""
    return blocks([[machine.c], [rows * machine.a]])


def left_kernel(matrix):
    """Rows whose products with the matrix are 0, and of which all such rows are sums of multiples."""
    return matrix.turned().kernel().turned()


def made_ahead(machine, rows):
    """Rows for states from which some ins of one turn keep the outs at 0 and lead to a state told by these."""
    return left_kernel(given_rows(machine, rows)) * state_rows(machine, rows)


def rows_ahead(machine, rows):
    """The same in echelon form."""
    return made_ahead(machine, rows).echelon()


def quiet_rows(machine, rows, turns):
    """The rows for 0, 1 and so on up to so many turns that lead to states of the rows told.

    The list ends earlier where the rows stay the same for ever, or where they do for what is asked: where ins of a
    turn but zeros do not lead there.
    """
    told = [rows]
    while len(told) <= turns and given_rows(machine, told[-1]).rank() < machine.b.width:
        ahead = rows_ahead(machine, told[-1])
        if ahead.height == told[-1].height:
            break
        told.append(ahead)
    return told


def rows_at(told, turns):
    """The rows for so many turns; those behind the last ones are as these are."""
    return told[min(turns, len(told) - 1)]


def quiet_way(machine, told, turns):
    """Ins of a first turn and of so many behind it, those of the first one not zeros alone, with outs of zeros.

    None if there are none. told are the rows by turns; what is left behind all these turns is told by the first.
    """
    kernel = given_rows(machine, rows_at(told, turns)).kernel()
    if kernel.width == 0:
        return None
    column = at_places(kernel, [0])
    way = [column]
    states = machine.b * column
    for left in range(turns - 1, -1, -1):
        rows = rows_at(told, left)
        column = given_rows(machine, rows).solved(-(state_rows(machine, rows) * states))
        way.append(column)
        states = machine.a * states + machine.b * column
    return [[row[0] for row in column.rows] for column in way]
