"""Nets made by chance, and what their equations and statements leave of streams, worked out with Fractions."""

from fractions import Fraction

from allstreams.equations import net_of_statements
from allstreams.errors import StreamError
from allstreams.nets import Net
from allstreams.polymatrices import PolyMatrix
from allstreams.ratios import Ratio
from tests.helpers import fraction, random_poly


def random_statement(chance, pick):
    """A statement of a net; pick tells a wire."""
    kind = chance.choice(["sum", "sum", "sum", "delay", "delay", "thin", "stretch", "hold", "deal", "weave", "rule"])
    ratio = lambda: Ratio(chance.randint(-3, 3), chance.choice([1, 1, 2]))
    if kind == "sum":
        return (kind, pick(), tuple((ratio(), pick()) for _ in range(chance.randint(1, 3))))
    if kind == "delay":
        return (kind, pick(), chance.randint(1, 3), pick())
    if kind == "thin":
        return (kind, pick(), 2, chance.randrange(2), pick())
    if kind in ("stretch", "hold"):
        return (kind, pick(), 2, pick())
    if kind == "deal":
        return (kind, (pick(), pick()), pick())
    if kind == "weave":
        return (kind, pick(), (pick(), pick()))
    return (kind, tuple((ratio(), pick(), chance.randint(0, 2)) for _ in range(chance.randint(1, 4))))


def random_told_net(chance, statements, most=12):
    """A triple of a net, its ends and its statements."""
    while True:
        wires = [f"w{number}" for number in range(chance.randint(2, 6))]
        rows = [random_statement(chance, lambda: chance.choice(wires)) for _ in range(chance.choice(statements))]
        ends = chance.sample(wires, chance.randint(1, min(3, len(wires))))
        try:
            net = net_of_statements(ends, rows)
        except StreamError:
            continue
        if net.rows.width <= most:
            return net, ends, rows


def random_net(chance, most=7, degree=2):
    """A net of equations made by chance."""
    while True:
        names = [f"n{number}" for number in range(chance.randint(1, 4))]
        ends = chance.sample(names, chance.randint(1, len(names)))
        hidden = [name for name in names if name not in ends]
        paces = {name: chance.choice([1, 1, 1, 2]) for name in names}
        width = sum(paces.values())
        if width <= most:
            rows = [[random_poly(chance, chance.randint(-1, degree), 2, (1,)) if chance.random() < 0.6 else 0
                     for _ in range(width)] for _ in range(chance.randint(0, width))]
            return Net(ends, hidden, paces, PolyMatrix(rows, width))


def left_of_row(net, row, streams, turns):
    """What a row makes of streams, told by their first items as Fractions, in so many turns."""
    told = []
    for turn in range(turns):
        total = Fraction(0)
        for entry, (name, lane) in zip(row, net.columns()):
            for number, part in enumerate(entry.parts):
                total += fraction(part) * streams[name][net.paces[name] * (turn + number) + lane]
        told.append(total)
    return told


def left_of_statement(statement, streams, places):
    """By the letter of points 4 and 52: what is to be 0 at these places (for a deal and a weave, of each wire)."""
    kind = statement[0]
    x = streams
    if kind == "rule":
        return [sum(fraction(ratio) * x[name][t + k] for ratio, name, k in statement[1]) for t in places]
    if kind == "sum":
        return [x[statement[1]][t] - sum(fraction(ratio) * x[name][t] for ratio, name in statement[2]) for t in places]
    if kind == "delay":
        return [x[statement[1]][t + statement[2]] - x[statement[3]][t] for t in places]
    if kind == "thin":
        return [x[statement[1]][t] - x[statement[4]][statement[2] * t + statement[3]] for t in places]
    if kind == "stretch":
        return [x[statement[1]][t] - (0 if t % statement[2] else x[statement[3]][t // statement[2]]) for t in places]
    if kind == "hold":
        return [x[statement[1]][t] - x[statement[3]][t // statement[2]] for t in places]
    if kind == "deal":
        return [x[name][t] - x[statement[2]][len(statement[1]) * t + number]
                for number, name in enumerate(statement[1]) for t in places]
    return [x[statement[1]][len(statement[2]) * t + number] - x[name][t]
            for number, name in enumerate(statement[2]) for t in places]


def items_of(streams, many):
    """The first items of a dict of Ruled streams, as Fractions."""
    return {name: [fraction(item) for item in streams[name].beginning(many)] for name in streams}


def holds_in(net, streams, turns=8):
    """Whether all equations hold for these Ruled streams in the first turns."""
    many = max(net.paces.values()) * (turns + net.rows.degree() + 1)
    items = items_of(streams, many)
    return not any(any(left_of_row(net, row, items, turns)) for row in net.rows.rows)
