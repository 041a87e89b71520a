"""Whether bounded streams can make a machine or a text grow, and how great their outs can be."""

from math import isqrt

from allstreams.checks import need_string, need_whole, need_within
from allstreams.decaying import squares_to_come, told_anew
from allstreams.discs import beyond_disc
from allstreams.errors import Unknown
from allstreams.least import rows_told
from allstreams.machines import need_machine
from allstreams.matrices import identity
from allstreams.naming import machine_of
from allstreams.ratios import Ratio
from allstreams.responses import inverse_poly
from allstreams.shortest import given_columns, shortest
from allstreams.sweeping import filled_columns, line_after
from allstreams.thinning import summed
from allstreams.wholes import norm, whole_parts
from allstreams.wiring import need_text

MOST_TURNS = 64


def pole_poly(machine):
    need_machine(machine)
    # Any machine with as few states has the same determinant.
    return inverse_poly(shortest(machine.at_rest()).a)


def is_bounded(machine):
    return beyond_disc(pole_poly(machine))


def bounded_paper(machine):
    need_machine(machine)
    short = shortest(machine.at_rest())
    poly = inverse_poly(short.a)
    if not beyond_disc(poly):
        return None
    # The states of the least machine are these rows times its states, where the entries are often shorter.
    rows = rows_told(short)
    squares, bottom = squares_to_come(short.a, poly, rows.turned() * rows)
    return told_anew(squares, bottom, rows.inverse())


def limits(machine):
    need_machine(machine)
    short = shortest(machine.at_rest())
    poly = inverse_poly(short.a)
    if not beyond_disc(poly):
        return None
    reached = reached_fast(short)
    if reached is None:
        reached = reached_slowly(short, poly)
    direct = [summed([entry.size() for entry in row]) for row in short.d.rows]
    return tuple([one + two for one, two in zip(direct, reached)])


def reached_fast(machine):
    """What the out lanes never pass by the states, told by a power of a whose rows are sums of sizes below 1.

    None if no such power is found among the first ones.
    """
    turns, power = 1, machine.a
    while greatest_row(power).compare(1) >= 0:
        if turns == MOST_TURNS:
            return None
        turns, power = 2 * turns, power * power
    columns, bottom = filled_columns(machine.a)
    factor = greatest_row(machine.b) * (1 - greatest_row(power)).inverse()
    reached = []
    for row in machine.c.rows:
        line, sizes = whole_parts(row), []
        for _ in range(turns):
            sizes.append(Ratio(norm(line[0]), line[1]))
            line = line_after(line, columns, bottom)
        reached.append(summed(sizes) * factor)
    return reached


def greatest_row(matrix):
    """The greatest sum of sizes of a row, 0 without rows."""
    most = Ratio(0)
    for row in matrix.rows:
        size = summed([entry.size() for entry in row])
        if size.compare(most) > 0:
            most = size
    return most


def reached_slowly(machine, poly):
    """The same by the squares of all states to come, however slowly they get less."""
    many = machine.size()
    squares, bottom = squares_to_come(machine.a, poly, identity(many))
    # In each turn they lose at least this share: so they are at most the sum of all times those of now.
    slowness = Ratio(sum([squares[place][place] for place in range(many)]), bottom)
    given = [squared(squares, whole_parts(column)) * Ratio(1, bottom) for column in machine.b.turned().rows]
    reach = summed([root_above(square) for square in given]) * slowness * 2
    sizes = [root_above(summed([part * part for part in row])) for row in machine.c.rows]
    return [rounded_up(size * reach) for size in sizes]


def squared(rows, line):
    """The product of a column on both sides of integer rows."""
    parts, bottom = line
    sums = [sum([one * two for one, two in zip(row, parts)]) for row in rows]
    return Ratio(sum([one * two for one, two in zip(parts, sums)]), bottom * bottom)


def root_above(ratio):
    """A ratio that is not below the root of a ratio, 0 for 0."""
    return Ratio(isqrt(ratio.top * ratio.bottom) + 1, ratio.bottom) if ratio.top else ratio


def rounded_up(ratio):
    return Ratio(-(-ratio).floor())


def greatest_at(machine, lane, turn):
    need_machine(machine)
    need_within(lane, 0, machine.c.height - 1)
    need_whole(turn)
    columns, bottom = filled_columns(machine.a)
    given, below = filled_columns(given_columns(machine))
    line = whole_parts(machine.c.rows[lane])
    answers = [whole_parts(machine.d.rows[lane])]
    for _ in range(turn):
        parts, shared = line_after(line, given, below)
        answers.append((parts[:-1], shared))
        line = line_after(line, columns, bottom)
    parts, shared = line_after(line, given, below)
    size = summed([Ratio(norm(row), scale) for row, scale in answers]) + Ratio(abs(parts[-1]), shared)
    up, down = (Ratio(1), Ratio(-1)) if parts[-1] >= 0 else (Ratio(-1), Ratio(1))
    return size, [[down if part < 0 else up for part in row] for row, _ in answers[::-1]]


def greatest_of(text, out, place):
    need_text(text)
    need_string(out)
    need_whole(place)
    machine = machine_of(text)
    if out not in text.outs:
        raise Unknown(out)
    number = text.outs.index(out)
    pace = machine.outs[number]
    size, turns = greatest_at(machine, sum(machine.outs[:number]) + place % pace, place // pace)
    ins = {}
    first = 0
    for name, many in zip(text.ins, machine.ins):
        ins[name] = [item for items in turns for item in items[first:first + many]]
        first += many
    return size, ins
