"""Machines undone without loops; all this is told of machines at rest.

What undoes a machine is told by streams on its outs that the turned machine, all its matrices turned, takes: they have
to end, and to tell a single 1. So the turned machine has to come to rest with outs of 0.
"""

from allstreams.checks import need_whole
from allstreams.errors import NotUndone
from allstreams.least import smaller
from allstreams.machines import Machine, need_machine
from allstreams.matrices import Matrix, blocks, identity, zeros
from allstreams.polys import Poly, factor_of, quotient_and_rest
from allstreams.quiet import answering, given_rows, left_kernel, no_rows, rows_ahead, state_rows
from allstreams.realizing import machine_by_rows
from allstreams.responses import inverse_poly
from allstreams.spaces import at_places
from allstreams.steady import Steady, lasting_rows
from allstreams.steering import steered
from allstreams.undoing import least_late, lost


def loopless_late(machine):
    least = least_late(machine)
    return least if least is not None and comes_to_rest(turned_steady(machine)) else None


def turned_steady(machine):
    """The Steady of the turned machine."""
    inner = answering(machine)
    turned = Machine(
        inner.a.turned(), inner.c.turned(), inner.b.turned(), inner.d.turned(), inner.start, inner.outs, inner.ins
    )
    return Steady(turned, no_rows(turned))


def comes_to_rest(steady):
    """Whether all steady states can be brought to rest: those that are not reached become such states by themselves."""
    rows = left_kernel(steady.space_reached()).echelon()
    return lasting_rows(at_places(rows * steady.after, list(rows.pivots()))).height == 0


def loopless_undo(machine, late):
    need_machine(machine)
    need_whole(late)
    least = least_late(machine)
    if least is None or least > late:
        raise NotUndone()
    steady = turned_steady(machine)
    if not comes_to_rest(steady):
        raise NotUndone()
    lines = []
    for way in single_ways(steady, least):
        polys = lanes_of(way, machine.c.height)
        lines.append(([poly.raised(late - least) for poly in polys], Poly([1])))
    return smaller(machine_by_rows(lines, machine.outs, machine.ins))


def single_ways(steady, late):
    """For each out lane of the machine ins, turn by turn, with which it tells 1 on this lane in the turn late and
    0 elsewhere."""
    columns, states = first_ins(steady, late)
    ways = []
    for lane in range(steady.machine.c.height):
        first = [[row[lane] for row in column.rows] for column in columns]
        begun = steady.multiples(at_places(states, [lane]))
        ways.append([*first, *steady.way_to_rest(begun)])
    return ways


def first_ins(steady, late):
    """The first of these ins, one column for each way, up to the turn late, and the states behind them.

    Beside the states stand the numbers that are to be told on each lane.
    """
    machine = steady.machine
    many, lanes = machine.size(), machine.c.height
    last = telling_machine(machine, -identity(lanes))
    before = telling_machine(machine, zeros(lanes, lanes))
    turns = [before for _ in range(late)] + [last]
    told = [blocks([[steady.rows, zeros(steady.rows.height, lanes)]])]
    for turn in turns[:0:-1]:
        told = [rows_ahead(turn, told[0]), *told]
    states = blocks([[zeros(many, lanes)], [identity(lanes)]])
    columns = []
    for turn, rows in zip(turns, told):
        columns.append(given_rows(turn, rows).solved(-(state_rows(turn, rows) * states)))
        states = turn.a * states + turn.b * columns[-1]
    return columns, states


def telling_machine(machine, direct):
    """The machine with a state more for each out lane that never changes; the outs are told beside multiples of these.
    """
    many, lanes = machine.size(), machine.c.height
    a = blocks([[machine.a, zeros(many, lanes)], [zeros(lanes, many), identity(lanes)]])
    b = blocks([[machine.b], [zeros(lanes, machine.b.width)]])
    start = [0] * (many + lanes)
    return Machine(a, b, blocks([[machine.c, direct]]), machine.d, start, machine.ins, machine.outs)


def lanes_of(turns, many):
    """The Polys whose parts are the numbers of each lane, turn by turn."""
    return [Poly([turn[lane] for turn in turns]) for lane in range(many)]


def loopless_breaker(machine):
    way = lost(machine)
    if way is not None:
        # The matrix makes 0 of these polys. They are no multiples of 1 - z: divided by it they would end earlier.
        return Poly([1, -1]), tuple(lanes_of(way, machine.b.width))
    turned = turned_steady(machine)
    if comes_to_rest(turned):
        return None
    inner = answering(machine)
    # What the turned machine reaches with outs of 0, the steady states of the machine tell as 0.
    steady = Steady(inner, (turned.basis * turned.space_reached()).turned().echelon())
    begun = Matrix([lasting_rows(steady.after).rows[0]]).turned()
    ratios = [1, *[column[0] for column in steered(steady.after, begun, begun)]]
    poly = Poly(ratios)
    lanes = inner.b.width
    telling = Machine(steady.after, begun, steady.ins, zeros(lanes, 1), [0] * steady.after.height, [1], [1] * lanes)
    # The ins that keep the outs at 0 from these states on are these polys by this one.
    polys = lanes_of(telling.run([[ratio] for ratio in ratios])[1:], lanes)
    shared = shared_factor(inverse_poly(inner.a), poly)
    # What is left of the states then has no root of the poly in its bottom.
    way = way_to(inner, left_kernel(poly_of(shared.turned(), inner.a)), steady.basis * begun)
    first = lanes_of(way, lanes)
    return poly, tuple([poly * ahead + behind.raised(len(way)) for ahead, behind in zip(first, polys)])


def shared_factor(one, other):
    """The factor of one poly that has all its roots that are roots of the other one, as often as it has them."""
    left = one
    factor = factor_of(left, other)
    while factor.degree() > 0:
        left = quotient_and_rest(left, factor)[0]
        factor = factor_of(left, other)
    return quotient_and_rest(one, left)[0]


def poly_of(poly, matrix):
    """The poly with a square Matrix in the place of its letter."""
    total = zeros(matrix.height, matrix.height)
    for part in poly.parts[::-1]:
        total = total * matrix + identity(matrix.height) * part
    return total


def way_to(machine, rows, column):
    """Ins of as few turns as can be that lead from rest to states of which the rows tell what they tell of these."""
    wanted = rows * column
    made, ahead = zeros(rows.height, 0), rows
    found = made.solved(wanted)
    while found is None:
        made, ahead = blocks([[ahead * machine.b, made]]), ahead * machine.a
        found = made.solved(wanted)
    items = [row[0] for row in found.rows]
    lanes = machine.b.width
    return [items[place:place + lanes] for place in range(0, len(items), lanes)]
