"""The entries of files: texts and nets as they are told, with their calls, and what is wrong with them."""

from allstreams.calls import Calls, Draft
from allstreams.checks import is_list
from allstreams.equations import net_by
from allstreams.netboxes import is_net_statement
from allstreams.statements import is_statement
from allstreams.wiring import Text
from allstreams.words import is_name


def is_entry(value):
    if not is_list(value) or len(value) == 0:
        return False
    if value[0] == "text":
        return len(value) == 5 and is_name(value[1]) and are_unlike(value[2]) and is_text_told(value[3], value[4])
    return value[0] == "net" and len(value) == 4 and is_name(value[1]) and is_net_told(value[2], value[3])


def are_unlike(names):
    """Whether this is a list of unlike names."""
    if not is_list(names) or not all([is_name(name) for name in names]):
        return False
    return len({name: True for name in names}) == len(names)


def is_text_told(outs, statements):
    if not are_unlike(outs) or len(outs) == 0:
        return False
    return is_list(statements) and len(statements) > 0 and all([is_statement(one) for one in statements])


def is_net_told(ends, statements):
    if not are_unlike(ends) or len(ends) == 0:
        return False
    return is_list(statements) and len(statements) > 0 and all([is_net_statement(one) for one in statements])


def told_texts(entries):
    """The Texts by their names; the first fault of a text is raised."""
    drafts = [Draft(entry[1], entry[2], entry[3], entry[4]) for entry in entries if entry[0] == "text"]
    calls = Calls(drafts)
    return {draft.name: Text(draft.name, draft.ins, draft.outs, calls.unfolded(draft)) for draft in drafts}


def told_nets(entries):
    """The Nets by their names; the first fault of a net is raised."""
    return {entry[1]: net_by(entry[2], entry[3]) for entry in entries if entry[0] == "net"}
