"""Which equations follow from a net, streams that break others, and streams on ends lifted to all wires.

A stream is worked out as the quotient whose parts are its items.
"""

from allstreams.checks import need_list
from allstreams.errors import BadValue, NotOfNet
from allstreams.forms import whole_form
from allstreams.hermite import pivot_of, rest_of
from allstreams.nets import need_net
from allstreams.polymatrices import PolyMatrix
from allstreams.polys import Poly, need_poly
from allstreams.quotients import Quotient
from allstreams.ratios import Ratio
from allstreams.relations import multipliers_of
from allstreams.ruled import Ruled, stream_of, woven_of


def follows(net, row):
    need_net(net)
    need_row(net, row)
    return multipliers_of(row, net.rows)


def need_row(net, row):
    for entry in need_list(row):
        need_poly(entry)
    if len(row) != net.rows.width:
        raise BadValue(row)


def breaker(net, row):
    need_net(net)
    need_row(net, row)
    form = whole_form(net)
    rest = rest_of(row, PolyMatrix(form, net.rows.width))
    filled = [column for column, entry in enumerate(rest) if entry.parts]
    if not filled:
        return None
    first = filled[0]
    worths = [Quotient(0, 1) for _ in rest]
    own = [line[first] for line in form if pivot_of(line) == first]
    worths[first] = seen_by(rest[first], own)
    return woven_wires(net, told_left(form, worths, first))


def seen_by(poly, own):
    """A stream of which this poly makes a stream that does not begin with 0; it goes by the pivot in its column.

    That is told in a list, and has a higher degree than the poly; without one any stream will do.
    """
    if not own:
        return Quotient(1, Poly([1, -Ratio(place_seen(poly))]))
    items = [1 if place == poly.low() else 0 for place in range(own[0].degree())]
    return Ruled(items, own[0]).quotient()


def place_seen(poly):
    """A whole number at which the poly is not 0."""
    place = 0
    while poly.worth_at(place).top == 0:
        place += 1
    return place


def told_left(form, worths, last):
    """The streams in the columns, those left of the last one by the equations that begin there, with noughts at first.

    Where none begins they are noughts.
    """
    told = list(worths)
    for row in form[::-1]:
        pivot = pivot_of(row)
        if pivot < last:
            told[pivot] = Quotient(0, 1)
            worth = -whole_sum(row, told)
            told[pivot] = Quotient(worth.top.raised(row[pivot].degree()), worth.bottom * row[pivot].turned())
    return told


def whole_sum(row, worths):
    """The stream that an equation makes of streams: the sum at each turn."""
    total = Quotient(0, 1)
    for poly, worth in zip(row, worths):
        if poly.parts and worth.top.parts:
            total = total + applied(poly, worth)
    return total


def applied(poly, worth):
    """The sum of part i of the poly times the stream from its item i on."""
    many = poly.degree()
    whole = worth.top * poly.turned()
    ahead = Poly(Quotient(whole, worth.bottom).first(many)) * worth.bottom
    return Quotient(Poly((whole - ahead).parts[many:]), worth.bottom)


def woven_wires(net, worths):
    """The streams of the wires whose lanes have these."""
    streams = {}
    lanes = list(worths)
    for name in net.hidden + net.ends:
        own = [stream_of(worth) for worth in lanes[:net.paces[name]]]
        lanes = lanes[net.paces[name]:]
        streams[name] = own[0] if len(own) == 1 else woven_of(own)
    return streams


def lifted(net, streams):
    need_net(net)
    need_streams(net, streams)
    form = whole_form(net)
    worths = [Quotient(0, 1) for name in net.hidden for _ in range(net.paces[name])]
    hidden = len(worths)
    for name in net.ends:
        worths.extend([lane.quotient() for lane in lanes_of_stream(streams[name], net.paces[name])])
    for row in form:
        if pivot_of(row) >= hidden and whole_sum(row, worths).top.parts:
            raise NotOfNet()
    told = woven_wires(net, told_left(form, worths, hidden))
    return {name: streams.get(name, told[name]) for name in told}


def need_streams(net, streams):
    """A dict from just the ends to Ruled streams; it is looked at as a whole."""
    if not isinstance(streams, dict) or len(streams) != len(net.ends):
        raise BadValue(streams)
    if not all([end in streams and isinstance(streams[end], Ruled) for end in net.ends]):
        raise BadValue(streams)


def lanes_of_stream(stream, pace):
    return [stream] if pace == 1 else [stream.thinned(pace, lane) for lane in range(pace)]
