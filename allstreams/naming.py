"""The machines of texts."""

from allstreams.errors import StandsStill
from allstreams.itemwise import givers_of, made_of, order_of_turn
from allstreams.machines import Machine
from allstreams.matrices import Matrix
from allstreams.paces import short_paces
from allstreams.ratios import Ratio
from allstreams.statements import taken_of
from allstreams.wiring import need_text


def machine_of(text):
    need_text(text)
    told = short_paces(text)
    order = order_of_turn(text, told)
    if order is None:
        raise StandsStill()
    places = state_places(text)
    start = [item for statement in text.statements if has_states(statement) for item in statement[2]]
    lanes = [(name, lane) for name in text.ins for lane in range(told[name])]
    forms = {item: {len(start) + number: Ratio(1)} for number, item in enumerate(lanes)}
    givers = givers_of(text)
    for wire, place in order:
        if wire in givers:
            forms[(wire, place)] = form_of(givers[wire], wire, place, forms, places)
    new = [form for statement in text.statements if has_states(statement)
           for form in new_states(statement, told, forms, places)]
    outs = [forms[(name, lane)] for name in text.outs for lane in range(told[name])]
    many, width = len(start), len(start) + len(lanes)
    a, b = halves(new, many, width)
    c, d = halves(outs, many, width)
    return Machine(a, b, c, d, start, [told[name] for name in text.ins], [told[name] for name in text.outs])


def has_states(statement):
    return statement[0] in ("delay", "source")


def state_places(text):
    """The number of the first state for each wire of a delay or a source."""
    places = {}
    many = 0
    for statement in text.statements:
        if has_states(statement):
            places[statement[1]] = many
            many += len(statement[2])
    return places


def form_of(statement, wire, place, forms, places):
    """An item of a turn as a sum of multiples of states and lanes, told by their numbers."""
    if statement[0] == "sum":
        return added_forms([(ratio, forms[(name, place)]) for ratio, name in statement[2]])
    if statement[0] == "source":
        return {places[wire] + place % len(statement[2]): Ratio(1)}
    if statement[0] == "delay" and place < len(statement[2]):
        return {places[wire] + place: Ratio(1)}
    for item in made_of(statement, wire, place):
        return forms[item]
    return {}


def added_forms(terms):
    """The sum of the forms, each times its ratio."""
    total = {}
    for ratio, form in terms:
        for number in form:
            total[number] = total.get(number, Ratio(0)) + ratio * form[number]
    return total


def new_states(statement, told, forms, places):
    """What the states of a delay or a source are behind the turn."""
    wire, many = statement[1], len(statement[2])
    pace, first = told[wire], places[wire]
    if statement[0] == "source":
        return [{first + (number + pace) % many: Ratio(1)} for number in range(many)]
    taken = taken_of(statement)[0]
    # What comes behind the told items has been taken in this turn.
    return [
        {first + place: Ratio(1)} if place < many else forms[(taken, place - many)]
        for place in range(pace, pace + many)
    ]


def halves(forms, many, width):
    """Two matrices of the forms: that of the first numbers, and that of the others."""
    rows = [[form.get(number, 0) for number in range(width)] for form in forms]
    return Matrix([row[:many] for row in rows], many), Matrix([row[many:] for row in rows], width - many)
