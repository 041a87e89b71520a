"""Texts gone through turn by turn."""

from allstreams.checks import is_list, need_within
from allstreams.errors import BadValue, StandsStill
from allstreams.itemwise import givers_of, order_of_turn, worth_of
from allstreams.paces import short_paces
from allstreams.ratios import as_ratio, is_ratio
from allstreams.wiring import need_text

MOST_TURNS = 400


def run_turns(text, ins, turns):
    need_text(text)
    need_streams(ins, text.ins)
    need_within(turns, 0, MOST_TURNS)
    told = short_paces(text)
    order = order_of_turn(text, told)
    if order is None:
        raise StandsStill()
    if any([len(ins[name]) < turns * told[name] for name in text.ins]):
        raise BadValue(ins)
    givers = givers_of(text)
    streams = {wire: [] for wire in givers}
    for name in text.ins:
        streams[name] = [as_ratio(item) for item in ins[name][:turns * told[name]]]
    order = [wire for wire, _ in order if wire in givers]
    for _ in range(turns):
        # The items of a wire come one behind another, so the next one is always the one that is due.
        for wire in order:
            streams[wire].append(worth_of(givers[wire], wire, len(streams[wire]), streams))
    return {name: streams[name] for name in text.outs}


def need_streams(ins, names):
    """A dict from just these names to lists of ratios; it is looked at as a whole."""
    if not isinstance(ins, dict) or len(ins) != len(names) or not all([name in ins for name in names]):
        raise BadValue(ins)
    if not all([is_list(ins[name]) and all([is_ratio(item) for item in ins[name]]) for name in names]):
        raise BadValue(ins)
