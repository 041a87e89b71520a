"""Nets joined by their ends of the same names."""

from allstreams.errors import Apart, TooMany, Unlike
from allstreams.forms import common_turns
from allstreams.nets import MOST_COLUMNS, Net, lane_numbers, need_net, unlike_names
from allstreams.polymatrices import PolyMatrix
from allstreams.polys import Poly


def joined(one, other):
    need_net(one)
    need_net(other)
    shared = [end for end in other.ends if end in one.ends]
    if not shared:
        raise Apart(other.ends[0])
    turns = common_turns(one, other, shared)
    if turns is None:
        raise Unlike()
    lanes = sum([one.paces[end] for end in shared])
    if one.rows.width * turns[0] + other.rows.width * turns[1] - lanes * turns[0] > MOST_COLUMNS:
        raise TooMany(MOST_COLUMNS)
    return put_together(one.over(turns[0]), other.over(turns[1]))


def put_together(one, other):
    """The net of two whose ends of the same names have the same paces."""
    ends = [*one.ends, *[end for end in other.ends if end not in one.ends]]
    first = unlike_names(one.hidden, ends)
    second = unlike_names(other.hidden, [*ends, *first])
    names = [*first, *second, *ends]
    paces = dict(zip([*first, *second], [*paces_of(one, one.hidden), *paces_of(other, other.hidden)]))
    for end in ends:
        paces[end] = one.paces[end] if end in one.paces and end in one.ends else other.paces[end]
    lanes = lane_numbers(names, paces)
    width = sum(paces.values())
    rows = rows_in(one, first, lanes, width) + rows_in(other, second, lanes, width)
    return Net(ends, [*first, *second], paces, PolyMatrix(rows, width))


def paces_of(net, names):
    return [net.paces[name] for name in names]


def rows_in(net, hidden, lanes, width):
    """The equations of a net, its hidden wires called so, in the columns of a net that has all of its wires."""
    places = [lanes[name] + lane for name, pace in zip([*hidden, *net.ends], paces_of(net, net.hidden + net.ends))
              for lane in range(pace)]
    rows = []
    for row in net.rows.rows:
        entries = [Poly([]) for _ in range(width)]
        for place, entry in zip(places, row):
            entries[place] = entry
        rows.append(entries)
    return rows
