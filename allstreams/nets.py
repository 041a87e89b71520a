"""Nets: wires tied by equations, with no direction told."""

from allstreams.checks import is_integer, need_list
from allstreams.errors import BadValue, TooMany
from allstreams.polymatrices import PolyMatrix, need_poly_matrix
from allstreams.polys import Poly
from allstreams.wiring import need_unlike_names
from allstreams.words import is_name

MOST_COLUMNS = 48


class Net:
    """Ends, hidden wires, how many items of each a turn has, and equations in the columns: rows of polys in s."""

    def __init__(self, ends, hidden, paces, rows):
        need_unlike_names(ends)
        if len(ends) == 0:
            raise BadValue(ends)
        need_unlike_names(hidden)
        if any([name in ends for name in hidden]):
            raise BadValue(hidden)
        need_paces(paces, [*hidden, *ends])
        need_poly_matrix(rows)
        if rows.width != sum(paces.values()):
            raise BadValue(rows)
        if rows.width > MOST_COLUMNS:
            raise TooMany(MOST_COLUMNS)
        self.ends = tuple(ends)
        self.hidden = tuple(hidden)
        self.paces = {name: paces[name] for name in self.hidden + self.ends}
        self.rows = rows

    def columns(self):
        return tuple([(name, lane) for name in self.hidden + self.ends for lane in range(self.paces[name])])

    def over(self, turns):
        if not is_integer(turns) or turns < 1:
            raise BadValue(turns)
        if self.rows.width * turns > MOST_COLUMNS:
            raise TooMany(MOST_COLUMNS)
        paces = {name: self.paces[name] * turns for name in self.paces}
        return Net(self.ends, self.hidden, paces, PolyMatrix(rows_over(self, turns), self.rows.width * turns))


def need_net(value):
    if not isinstance(value, Net):
        raise BadValue(value)


def need_paces(paces, names):
    """A dict from just these names to integers from 1 on; it is looked at as a whole."""
    if not isinstance(paces, dict) or len(paces) != len(names):
        raise BadValue(paces)
    if not all([name in paces and is_integer(paces[name]) and paces[name] >= 1 for name in names]):
        raise BadValue(paces)


def rows_over(net, turns):
    """The equations over so many turns: each one for each of these turns."""
    lanes = lane_numbers(net.hidden + net.ends, net.paces)
    # Where the lane of a column stands in the first of the turns, how far on in the next one, and what it has.
    places = [(lanes[name] * turns + lane, net.paces[name]) for name, lane in net.columns()]
    width = net.rows.width * turns
    return [
        row_over(row, first, turns, places, width)
        for row in net.rows.rows for first in range(turns)
    ]


def lane_numbers(names, paces):
    """The number of the first column of each wire."""
    lanes = {}
    first = 0
    for name in names:
        lanes[name] = first
        first += paces[name]
    return lanes


def row_over(row, first, turns, places, width):
    """An equation from the turn of this number on, in lanes of so many turns."""
    parts = [{} for _ in range(width)]
    for entry, (place, pace) in zip(row, places):
        for number, part in enumerate(entry.parts):
            later = first + number
            parts[place + later % turns * pace][later // turns] = part
    return [poly_of_parts(told) for told in parts]


def poly_of_parts(told):
    """The Poly with these parts, told by their numbers; the others are 0."""
    return Poly([told.get(number, 0) for number in range(max(list(told), default=-1) + 1)])


def need_ends(net, names):
    """A list of unlike ends of the net."""
    for name in need_list(names):
        if not is_end(net, name):
            raise BadValue(name)
    if len({name: True for name in names}) < len(names):
        raise BadValue(names)


def is_end(net, name):
    return isinstance(name, str) and name in net.ends


def hide(net, names):
    need_net(net)
    need_ends(net, names)
    if len(names) == len(net.ends):
        raise BadValue(names)
    ends = [name for name in net.ends if name not in names]
    return with_order(net, ends, [*net.hidden, *names])


def with_order(net, ends, hidden):
    """The net with its wires in another order, some perhaps hidden."""
    lanes = lane_numbers(net.hidden + net.ends, net.paces)
    order = [lanes[name] + lane for name in [*hidden, *ends] for lane in range(net.paces[name])]
    rows = PolyMatrix([[row[place] for place in order] for row in net.rows.rows], net.rows.width)
    return Net(ends, hidden, net.paces, rows)


def renamed_net(net, names):
    need_net(net)
    if not isinstance(names, dict) or len(names) != len(net.ends) or not all([end in names for end in net.ends]):
        raise BadValue(names)
    ends = [names[end] for end in net.ends]
    if not all([is_name(name) for name in ends]) or len({name: True for name in ends}) < len(ends):
        raise BadValue(names)
    hidden = unlike_names(net.hidden, ends)
    olds = net.hidden + net.ends
    paces = {new: net.paces[old] for old, new in zip(olds, [*hidden, *ends])}
    return Net(ends, hidden, paces, net.rows)


def unlike_names(names, taken):
    """The names; in the place of those that are taken stand others."""
    used = {name: True for name in [*names, *taken]}
    found = []
    for name in names:
        new = name
        number = 0
        while name in taken and new in used:
            new = f"h{number}"
            number += 1
        used[new] = True
        found.append(new)
    return found
