"""Ends of nets that can be driven, and machines that tell the others."""

from allstreams.errors import NotDriven
from allstreams.forms import normal_form
from allstreams.machines import Machine
from allstreams.matrices import Matrix
from allstreams.nets import lane_numbers, need_ends, need_net
from allstreams.realizing import unit
from allstreams.rowreduced import flat_row, row_reduced
from allstreams.spaces import at_places


def can_drive(net, wires):
    need_net(net)
    need_ends(net, wires)
    return told_steps(net, wires) is not None


def free_beginnings(net, wires):
    return sum([degree for degree, _ in needed_steps(net, wires)])


def needed_steps(net, wires):
    need_net(net)
    need_ends(net, wires)
    steps = told_steps(net, wires)
    if steps is None:
        raise NotDriven()
    return steps


def others(net, wires):
    """The ends that are not driven."""
    return [end for end in net.ends if end not in wires]


def lanes_of(net, names):
    return sum([net.paces[name] for name in names])


def told_steps(net, wires):
    """Pairs of a degree and an equation of the ends, first the lanes of those that are told, in steps; None if they
    are not told by the others.

    The degrees add up to that of the determinant of the first columns. A fraction of the inverse of these columns has
    a greater degree than its bottom exactly if some equation has one, in the other columns, than in these.
    """
    told = others(net, wires)
    own, width = lanes_of(net, told), lanes_of(net, net.ends)
    rows, ends = outer_rows(net)
    lanes = lane_numbers(ends, net.paces)
    order = [lanes[name] + lane for name in [*told, *wires] for lane in range(net.paces[name])]
    steps = row_reduced([flat_row([row[place] for place in order]) for row in rows], width, own)
    if steps is None or len(steps) < own:
        return None
    # A row has no parts behind the last one that is not 0.
    return None if any([len(row) > (degree + 1) * width for degree, row in steps]) else steps


def outer_rows(net):
    """Equations of the ends of which all others are sums, and the ends in the order of their columns."""
    if not net.hidden:
        return net.rows.rows, net.ends
    form = normal_form(net)
    return form.rows.rows, form.ends


def machine_of_net(net, wires):
    steps = needed_steps(net, wires)
    told = others(net, wires)
    own, width = lanes_of(net, told), lanes_of(net, net.ends)
    parts = [[told_part(row, number, width) for number in range(degree + 1)] for degree, row in steps]
    leads = Matrix([line[-1] for line in parts], width)
    firsts = Matrix([part for line in parts for part in line[:-1]], width)
    # State j of an equation is what its parts from number j on add up to: the last one is told by the items of now.
    shown, moved = held_states([degree for degree, _ in steps])
    inverse = at_places(leads, list(range(own))).inverse()
    driven = list(range(own, width))
    c, d = inverse * shown, -(inverse * at_places(leads, driven))
    first = at_places(firsts, list(range(own)))
    return Machine(
        moved - first * c, -(first * d) - at_places(firsts, driven), c, d, [0 for _ in range(firsts.height)],
        [net.paces[name] for name in wires], [net.paces[name] for name in told],
    )


def told_part(row, number, width):
    """Part so many of an equation in all columns."""
    part = row[number * width:(number + 1) * width]
    return [*part, *[0 for _ in range(width - len(part))]]


def held_states(degrees):
    """Two Matrices: the last state of each equation, noughts for one without states, and the states ahead of all."""
    many = sum(degrees)
    shown, moved = [], []
    for degree in degrees:
        moved.extend([unit(len(moved) - 1 + place, many) if place else unit(many, many) for place in range(degree)])
        shown.append(unit(len(moved) - 1 if degree else many, many))
    return Matrix(shown, many), Matrix(moved, many)
