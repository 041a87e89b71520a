"""Machines that give back late what other machines take."""

from allstreams.checks import need_whole
from allstreams.errors import NotUndone
from allstreams.lateness import least_known
from allstreams.least import smaller
from allstreams.machines import need_machine
from allstreams.matrices import identity, part_of
from allstreams.patchwork import TAKEN, Patchwork, added, line_name, plain, times
from allstreams.quiet import answering, given_rows, left_kernel, no_rows, quiet_rows, quiet_way, state_rows
from allstreams.ratios import Ratio
from allstreams.spaces import at_places
from allstreams.steady import Steady


def least_late(machine):
    need_machine(machine)
    return least_known(machine)


def undo(machine, late):
    need_machine(machine)
    need_whole(late)
    least = least_known(machine)
    if least is None or least > late:
        raise NotUndone()
    inner = answering(machine)
    weights, feedback = found_ins(inner, least)
    patchwork = Patchwork()
    news = told_news(patchwork, machine)
    # Its states are those of the inner machine so many turns ago, all the ins until then being known.
    terms = [{"states": feedback}]
    for turns in range(least + 1):
        if turns > 0:
            patchwork.add_block(line_name("told", turns), [0] * machine.d.height, news)
            news = plain(line_name("told", turns), machine.d.height)
        terms.append(times(weights[least - turns], news))
    ins = added(terms)
    patchwork.add_block("states", [0] * inner.size(), added([{"states": inner.a}, times(inner.b, ins)]))
    out = patchwork.add_line("ins", late - least, machine.d.width, ins)
    return smaller(patchwork.made(out, machine.d.width, machine.outs, machine.ins))


def told_news(patchwork, machine):
    """The form of what the other machine tells beside what comes of its start; a block for this is added if needed.

    So all is as if it had been at rest for ever, and the ins that are found ahead of the first turn are 0.
    """
    news = plain(TAKEN, machine.d.height)
    if any([item.top != 0 for item in machine.start]):
        patchwork.add_block("start", machine.start, {"start": machine.a})
        news["start"] = -machine.c
    return news


def found_ins(machine, least):
    """How the ins of a turn are found: the weights of what is told in this turn and in the turns behind it, up to
    the least that is enough, and the weight of the states ahead of this turn."""
    rows, parts = no_rows(machine), []
    for _ in range(least):
        rows, parts = told_ahead(machine, rows, parts)
    low = given_rows(machine, rows)
    solution = low.turned().solved(identity(low.width)).turned()
    now, later = halves(solution, machine.d.height)
    return [now, *[later * part for part in parts]], -(solution * state_rows(machine, rows))


def told_ahead(machine, rows, parts):
    """The rows for one turn more, and what they tell of the states: parts times the outs of this turn and later ones.

    The parts passed are those of the rows passed.
    """
    kernel = left_kernel(given_rows(machine, rows))
    made = kernel * state_rows(machine, rows)
    places = list(made.turned().pivots())
    chosen = part_of(made, places, list(range(made.width)))
    scale = at_places(chosen, list(chosen.pivots())).inverse()
    now, later = halves(scale * part_of(kernel, places, list(range(kernel.width))), machine.d.height)
    return scale * chosen, [now, *[later * part for part in parts]]


def halves(matrix, many):
    """The first columns, so many, and the others."""
    return at_places(matrix, list(range(many))), at_places(matrix, list(range(many, matrix.width)))


def lost(machine):
    need_machine(machine)
    return lost_of(answering(machine)) if least_known(machine) is None else None


def lost_of(inner):
    """A lost stream of an answering machine that is never undone."""
    return Steady(inner, no_rows(inner)).way_back()


def twins(machine, late):
    need_machine(machine)
    need_whole(late)
    least = least_known(machine)
    if least is not None and least <= late:
        return None
    inner = answering(machine)
    if least is None:
        way = lost_of(inner)
    else:
        way = quiet_way(inner, quiet_rows(inner, no_rows(inner), late), late)
    noughts = [Ratio(0) for _ in range(machine.b.width)]
    one = [list(way[turn]) if turn < len(way) else list(noughts) for turn in range(late + 1)]
    return one, [list(noughts) for _ in one]
