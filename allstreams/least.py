"""The memory of machines, and the least machine that does the same."""

from allstreams.errors import BadValue
from allstreams.fresh import fresh_rows, independent_labels, shortest
from allstreams.lifting import solved_square
from allstreams.machines import Machine, need_machine
from allstreams.matrices import Matrix, blocks

SMALL = 60


def memory(machine):
    need_machine(machine)
    return shortest(machine).size()


def memory_paper(machine):
    need_machine(machine)
    short = shortest(machine)
    made = blocks([[short.b, column_of(short.start)]])
    # The table is the product of rows that see all states and of columns that reach all of them.
    rows = independent_labels(short.c, short.a)
    columns = independent_labels(made.turned(), short.a.turned())
    last = short.b.width
    return rows, [(turn, None if lane == last else lane) for turn, lane in columns]


def column_of(items):
    return Matrix([[item] for item in items], 1)


def least_machine(machine):
    need_machine(machine)
    short = shortest(machine)
    fresh = fresh_rows(short.c, short.a)
    places = {label: place for place, label in enumerate(fresh.labels)}
    start = fresh.rows * column_of(short.start)
    a = [row_at(fresh, places, (turn + 1, lane)) for turn, lane in fresh.labels]
    c = [row_at(fresh, places, (0, lane)) for lane in range(short.c.height)]
    many = len(places)
    return Machine(
        Matrix(a, many), fresh.rows * short.b, Matrix(c, many), machine.d, [row[0] for row in start.rows],
        machine.ins, machine.outs,
    )


def smaller(machine):
    """The least machine of a small one; a greater one as it is, as its least machine may take long."""
    return least_machine(machine) if machine.size() <= SMALL else machine


def row_at(fresh, places, label):
    """A row of the table, fresh or the first behind the fresh ones of its lane, as multiples of the fresh ones."""
    if label in places:
        return [1 if place == places[label] else 0 for place in range(len(places))]
    return fresh.ends.rows[label[1]]


def change_between(one, other):
    need_least(one)
    need_least(other)
    if one.ins != other.ins or one.outs != other.outs:
        raise BadValue(other)
    if least_machine(one) != least_machine(other):
        return None
    # Both tell the same rows of the table, each in its own states.
    return solved_square(fresh_rows(other.c, other.a).rows, fresh_rows(one.c, one.a).rows)


def need_least(machine):
    """A machine with as many states as its memory."""
    if memory(machine) != machine.size():
        raise BadValue(machine)
