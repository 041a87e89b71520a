"""The memory of machines, and the least machine that does the same."""

from allstreams.errors import BadValue
from allstreams.fresh import fresh_rows
from allstreams.lifting import solved_square
from allstreams.machines import Machine, need_machine
from allstreams.matrices import Matrix
from allstreams.ratios import Ratio
from allstreams.shortest import given_columns, independent_labels, is_reached, shortest
from allstreams.sweeping import filled_columns

SMALL = 60


def memory(machine):
    need_machine(machine)
    return shortest(machine).size()


def memory_paper(machine):
    need_machine(machine)
    short = shortest(machine)
    # The table is the product of rows that see all states and of columns that reach all of them.
    rows = independent_labels(short.c, short.a)
    columns = independent_labels(given_columns(short).turned(), short.a.turned())
    last = short.b.width
    return rows, [(turn, None if lane == last else lane) for turn, lane in columns]


def least_machine(machine):
    need_machine(machine)
    seen = seen_machine(machine)
    # Small ones of them are often reached whole, which is told faster than their space.
    if is_reached(seen):
        return seen
    return seen_machine(reached_machine(seen))


def seen_machine(machine):
    """The machine with one state for each fresh row of the states, whether they are reached or not."""
    fresh = fresh_rows(machine.c, machine.a)
    places = {label: place for place, label in enumerate(fresh.labels)}
    noughts = [Ratio(0) for _ in places]
    a = [row_at(fresh, places, (turn + 1, lane), noughts) for turn, lane in fresh.labels]
    c = [row_at(fresh, places, (0, lane), noughts) for lane in range(machine.c.height)]
    made = times_lines(fresh.seen, given_columns(machine))
    many = len(places)
    return Machine(
        Matrix(a, many), Matrix([row[:-1] for row in made], machine.b.width), Matrix(c, many), machine.d,
        [row[-1] for row in made], machine.ins, machine.outs,
    )


def row_at(fresh, places, label, noughts):
    """A row of the table, fresh or the first behind the fresh ones of its lane, as multiples of the fresh ones."""
    if label not in places:
        return fresh.ends[label[1]]
    place = places[label]
    return [*noughts[:place], Ratio(1), *noughts[place + 1:]]


def times_lines(lines, matrix):
    """The rows of the product of lines, integers and a bottom each, and a Matrix."""
    columns, bottom = filled_columns(matrix)
    return [
        [Ratio(sum([parts[place] * part for place, part in column]), below * bottom) for column in columns]
        for parts, below in lines
    ]


def reached_machine(machine):
    """A machine that does the same with one state for each column of the table that is no sum of columns ahead of it.

    These are fresh rows of the turned machine.
    """
    columns = given_columns(machine)
    fresh = fresh_rows(columns.turned(), machine.a.turned())
    places = {label: place for place, label in enumerate(fresh.labels)}
    many = len(places)
    noughts = [Ratio(0) for _ in places]
    a = [row_at(fresh, places, (turn + 1, lane), noughts) for turn, lane in fresh.labels]
    given = [row_at(fresh, places, (0, lane), noughts) for lane in range(columns.width)]
    told = times_lines(fresh.seen, machine.c.turned())
    return Machine(
        Matrix(a, many).turned(), Matrix(given[:-1], many).turned(), Matrix(told, machine.c.height).turned(),
        machine.d, given[-1], machine.ins, machine.outs,
    )


def smaller(machine):
    """The least machine of a small one; a greater one as it is, as its least machine may take long."""
    return least_machine(machine) if machine.size() <= SMALL else machine


def change_between(one, other):
    need_least(one)
    need_least(other)
    if one.ins != other.ins or one.outs != other.outs:
        raise BadValue(other)
    if least_machine(one) != least_machine(other):
        return None
    # Both tell the same rows of the table, each in its own states.
    return solved_square(rows_told(other), rows_told(one))


def rows_told(machine):
    """The Matrix of the fresh rows of a machine."""
    lines = fresh_rows(machine.c, machine.a).seen
    return Matrix([[Ratio(part, bottom) for part in parts] for parts, bottom in lines], machine.size())


def need_least(machine):
    """A machine with as many states as its memory."""
    if memory(machine) != machine.size():
        raise BadValue(machine)
