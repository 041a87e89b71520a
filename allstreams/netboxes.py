"""The statements of nets: boxes that are read as equations, and rules."""

from allstreams.checks import is_list, is_within
from allstreams.itemwise import made_of
from allstreams.nets import poly_of_parts
from allstreams.paces import box_paces
from allstreams.ratios import Ratio
from allstreams.statements import given_of, is_short_ratio, is_statement, taken_of
from allstreams.words import is_name

FARTHEST = 9999

# Words of boxes that are told as in texts.
SHARED = ("sum", "thin", "stretch", "hold", "deal", "weave")


def is_net_delay(told):
    return len(told) == 3 and is_name(told[0]) and is_within(told[1], 1, FARTHEST) and is_name(told[2])


def is_rule(told):
    if len(told) != 1 or not is_list(told[0]) or len(told[0]) == 0:
        return False
    return all([is_rule_term(term) for term in told[0]])


def is_rule_term(term):
    if not is_list(term) or len(term) != 3:
        return False
    return is_short_ratio(term[0]) and is_name(term[1]) and is_within(term[2], 0, FARTHEST)


def is_net_statement(value):
    if not is_list(value) or len(value) == 0 or not isinstance(value[0], str):
        return False
    if value[0] == "delay":
        return is_net_delay(value[1:])
    if value[0] == "rule":
        return is_rule(value[1:])
    return value[0] in SHARED and is_statement(value)


def names_of(statement):
    """The names of wires in a statement, from left to right."""
    if statement[0] == "rule":
        return tuple([name for _, name, _ in statement[1]])
    return tuple(given_of(statement)) + tuple(taken_of(statement))


def paces_in(statement):
    """Pairs of the wires of a statement and their paces, up to a factor that is the same for all of them."""
    if statement[0] == "rule":
        return [(name, 1) for name in names_of(statement)]
    return box_paces(statement)


def equations_in(statement, told):
    """The equations of a statement: lists of triples (ratio, wire, place) whose sum is 0, for the places of a turn."""
    word = statement[0]
    if word == "rule":
        pace = told[statement[1][0][1]]
        return [[(ratio, wire, place + later) for ratio, wire, later in statement[1]] for place in range(pace)]
    if word == "deal":
        return [
            equal((wire, place), [(statement[2], place * len(statement[1]) + number)])
            for number, wire in enumerate(statement[1]) for place in range(told[wire])
        ]
    name = statement[1]
    places = list(range(told[name]))
    if word == "sum":
        return [
            [(Ratio(1), name, place), *[(-ratio, wire, place) for ratio, wire in statement[2]]] for place in places
        ]
    if word == "delay":
        return [equal((name, place + statement[2]), [(statement[3], place)]) for place in places]
    return [equal((name, place), made_of(statement, name, place)) for place in places]


def equal(item, others):
    """The equation that an item is equal to others, or to nothing."""
    name, place = item
    return [(Ratio(1), name, place), *[(Ratio(-1), wire, at) for wire, at in others]]


def equation_row(terms, lanes, told, width):
    """The row of an equation; lanes are the numbers of the first columns of the wires, told their paces."""
    parts = [{} for _ in range(width)]
    for ratio, name, place in terms:
        turn, lane = place // told[name], place % told[name]
        column = lanes[name] + lane
        parts[column][turn] = parts[column].get(turn, Ratio(0)) + ratio
    return [poly_of_parts(entry) for entry in parts]
