"""Two texts of one shape, and their machines over the common turn."""

from allstreams.errors import StandsStill, TooMany, Unlike
from allstreams.itemwise import order_of_turn
from allstreams.machines import Machine
from allstreams.matrices import part_of
from allstreams.naming import machine_of
from allstreams.paces import MOST_ITEMS, short_paces
from allstreams.ratios import Ratio
from allstreams.wiring import need_text


def paired(one, other):
    """The machines of two living texts over their common turn, the ins and outs of both in the order of the first."""
    need_text(one)
    need_text(other)
    told = [short_paces(one), short_paces(other)]
    for text, pace in zip([one, other], told):
        if order_of_turn(text, pace) is None:
            raise StandsStill()
    turns = common_turns(one, other, told)
    if turns is None:
        raise Unlike()
    for pace, many in zip(told, turns):
        if many * sum(pace.values()) > MOST_ITEMS:
            raise TooMany(MOST_ITEMS)
    first, second = machine_of(one).over(turns[0]), machine_of(other).over(turns[1])
    ins = lanes_by_names(one.ins, other.ins, second.ins)
    outs = lanes_by_names(one.outs, other.outs, second.outs)
    return first, with_lanes(second, ins, outs, first)


def common_turns(one, other, told):
    """How many turns of each text the common turn has; None if they are not of one shape."""
    if sorted(one.ins) != sorted(other.ins) or sorted(one.outs) != sorted(other.outs):
        return None
    first, second = told
    ratios = [Ratio(second[name], first[name]) for name in one.ins + one.outs]
    if any([ratio != ratios[0] for ratio in ratios]):
        return None
    return ratios[0].top, ratios[0].bottom


def lanes_by_names(names, told, lanes):
    """The lanes of ins or outs in the order of the names; told are the names in the order of the lanes."""
    places = {}
    first = 0
    for name, many in zip(told, lanes):
        places[name] = list(range(first, first + many))
        first += many
    return [place for name in names for place in places[name]]


def with_lanes(machine, ins, outs, like):
    """The machine with its lanes in this order, and ins and outs as those of the other machine."""
    states = list(range(machine.size()))
    return Machine(
        machine.a, part_of(machine.b, states, ins), part_of(machine.c, outs, states), part_of(machine.d, outs, ins),
        machine.start, like.ins, like.outs,
    )
