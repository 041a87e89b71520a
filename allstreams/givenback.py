"""Whether a text gives back late what another text takes, and where it does not."""

from allstreams.errors import StandsStill
from allstreams.itemwise import order_of_turn
from allstreams.likeness import Tellings, out_of
from allstreams.machines import Machine
from allstreams.matrices import blocks, zeros
from allstreams.naming import machine_of
from allstreams.paces import short_paces
from allstreams.ratios import Ratio


def series_of(second, first):
    """The machine of a text behind another one, in order, over the least turns that fit, with how many turns of the
    first one these are; None if the paces, or the numbers of ins and outs, do not fit."""
    told = [short_paces(second), short_paces(first)]
    for text, paces in zip([second, first], told):
        if order_of_turn(text, paces) is None:
            raise StandsStill()
    if len(second.ins) != len(first.outs) or len(second.outs) != len(first.ins):
        return None
    pairs = list(zip([*second.ins, *second.outs], [*first.outs, *first.ins]))
    ratios = [Ratio(told[0][one], told[1][other]) for one, other in pairs]
    if any([ratio != ratios[0] for ratio in ratios]):
        return None
    turns = ratios[0].top
    return behind_machine(machine_of(second).over(ratios[0].bottom), machine_of(first).over(turns)), turns


def behind_machine(second, first):
    """The machine that does what the second one does to what the first one tells."""
    a = blocks([[first.a, zeros(first.size(), second.size())], [second.b * first.c, second.a]])
    b = blocks([[first.b], [second.b * first.d]])
    c = blocks([[second.d * first.c, second.c]])
    return Machine(a, b, c, second.d * first.d, first.start + second.start, first.ins, second.outs)


def gives_back(second, first, late):
    """Whether the texts fit, and the second one gives back the ins of the first one late by so many of its turns."""
    series = series_of(second, first)
    return series is not None and other_item(series[0], series[1], late) is None


def wrong_item(second, first, late):
    """A triple of the number of an out, a place and streams for the ins of the first text with which this item is not
    the one that it should be; None if the texts do not fit, or if there is none such."""
    series = series_of(second, first)
    found = None if series is None else other_item(series[0], series[1], late)
    if found is None:
        return None
    row, turn, given = found
    machine = series[0]
    number, lane = out_of(row, machine.outs)
    ins = {}
    begun = 0
    for name, many in zip(first.ins, machine.ins):
        ins[name] = [Ratio(1 if at == given else 0) for at in range(begun, begun + many)]
        begun += many
    return number, turn * machine.outs[number] + lane, ins


def other_item(machine, turns, late):
    """An out lane, a turn, and an in lane in which a 1 in turn 0 (None: zeros alone) shows that the machine, whose turn
    has so many turns of a text, does not tell its ins late by so many of these; None if it does."""
    wanted = wanted_ones(machine, turns, late)
    first, last = min(list(wanted)), max(list(wanted))
    tellings = Tellings(machine)
    # What is 0 for as many turns as there are states is 0 for ever.
    many = machine.size() + 1 if first > machine.size() else last + machine.size() + 1
    for turn in range(many):
        found = unlike_entry(tellings.next_told().rows, wanted.get(turn, {}))
        if found is not None:
            row, column = found
            return row, turn, column - 1 if column else None
    if first > machine.size():
        row, column = list(wanted[first])[0]
        return row, first, column - 1
    return None


def wanted_ones(machine, turns, late):
    """For each turn in which some are due the entries that are to be 1: pairs of an out lane and a column."""
    wanted = {}
    begun = 0
    for many in machine.ins:
        for lane in range(many):
            place = lane + late * (many // turns)
            wanted.setdefault(place // many, {})[(begun + place % many, begun + lane + 1)] = True
        begun += many
    return wanted


def unlike_entry(rows, ones):
    """The first place, by columns, at which rows are not 1 where it is told and 0 elsewhere; None if there is none."""
    for column in range(len(rows[0])):
        for row, entries in enumerate(rows):
            if entries[column] != Ratio(1 if (row, column) in ones else 0):
                return row, column
    return None
