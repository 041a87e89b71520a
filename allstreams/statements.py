"""Statements: the tuples that tell boxes and calls, names of wires given first."""

from allstreams.checks import is_list, is_within
from allstreams.lanes import LEAST, MOST
from allstreams.ratios import Ratio
from allstreams.words import is_name

# The least integer of 301 digits.
TOO_LONG = 10 ** 60 * 10 ** 60 * 10 ** 60 * 10 ** 60 * 10 ** 60


def is_short_ratio(value):
    """Whether this is a Ratio, not an integer, of at most 300 digits in top and bottom."""
    return isinstance(value, Ratio) and abs(value.top) < TOO_LONG and value.bottom < TOO_LONG


def are_terms(value):
    return is_list(value) and len(value) > 0 and all([is_term(term) for term in value])


def is_term(value):
    return is_list(value) and len(value) == 2 and is_short_ratio(value[0]) and is_name(value[1])


def are_items(value):
    return is_list(value) and len(value) > 0 and all([is_short_ratio(item) for item in value])


def are_names(value):
    return is_list(value) and all([is_name(name) for name in value])


def are_lanes(value):
    """Whether these are names of wires that can be dealt or woven."""
    return are_names(value) and LEAST <= len(value) <= MOST


def is_many(value):
    return is_within(value, LEAST, MOST)


def is_sum(told):
    return len(told) == 2 and is_name(told[0]) and are_terms(told[1])


def is_delay(told):
    return len(told) == 3 and is_name(told[0]) and are_items(told[1]) and is_name(told[2])


def is_source(told):
    return len(told) == 2 and is_name(told[0]) and are_items(told[1])


def is_thin(told):
    if len(told) != 4 or not is_many(told[1]):
        return False
    return is_name(told[0]) and is_within(told[2], 0, told[1] - 1) and is_name(told[3])


def is_spread(told):
    """Whether this is what stands behind the word of a stretch or a hold."""
    return len(told) == 3 and is_name(told[0]) and is_many(told[1]) and is_name(told[2])


def is_deal(told):
    return len(told) == 2 and are_lanes(told[0]) and is_name(told[1])


def is_weave(told):
    return len(told) == 2 and is_name(told[0]) and are_lanes(told[1])


def is_call(told):
    if len(told) != 3 or not are_names(told[0]) or len(told[0]) == 0:
        return False
    return is_name(told[1]) and are_names(told[2])


FORMS = {
    "sum": is_sum,
    "delay": is_delay,
    "source": is_source,
    "thin": is_thin,
    "stretch": is_spread,
    "hold": is_spread,
    "deal": is_deal,
    "weave": is_weave,
    "call": is_call,
}


def is_statement(value):
    if not is_list(value) or len(value) == 0 or not isinstance(value[0], str) or value[0] not in FORMS:
        return False
    is_told = FORMS[value[0]]
    return is_told(value[1:])


def as_tuples(value):
    """A statement in which tuples stand for lists, all the way down."""
    return tuple([as_tuples(item) for item in value]) if is_list(value) else value


def given_of(statement):
    """The names of the wires that a statement gives, in order."""
    return statement[1] if is_list(statement[1]) else (statement[1],)


def taken_of(statement):
    """The names of the wires that a statement takes, in order, one perhaps several times."""
    last = statement[-1]
    if statement[0] == "source":
        return ()
    if statement[0] == "sum":
        return tuple([name for _, name in last])
    return last if is_list(last) else (last,)


def called_anew(statement, names, prefix):
    """The statement with other names of its wires: those that are told, and for all others the prefix ahead."""
    given = renamed_part(statement[1], names, prefix)
    if statement[0] == "source":
        return ("source", given, statement[2])
    if statement[0] == "sum":
        terms = [(ratio, renamed_part(name, names, prefix)) for ratio, name in statement[2]]
        return ("sum", given, tuple(terms))
    # What stands between the names, numbers, items or the name of a text, stays.
    return (statement[0], given, *statement[2:-1], renamed_part(statement[-1], names, prefix))


def renamed_part(part, names, prefix):
    """A name, or a tuple of names, anew."""
    if is_list(part):
        return tuple([renamed_part(name, names, prefix) for name in part])
    return names[part] if part in names else prefix + part
