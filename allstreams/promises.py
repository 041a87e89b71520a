"""Promises, and the texts of them."""

from allstreams.checks import is_list, is_within, need_string
from allstreams.entrytext import rule_terms_text
from allstreams.errors import BadPromise, BadValue, NotAText
from allstreams.lines import read_more_names
from allstreams.netboxes import FARTHEST, is_rule
from allstreams.netlines import read_rule_terms, read_whole
from allstreams.printer import names_text
from allstreams.scanner import Scanner
from allstreams.statements import are_names, as_tuples
from allstreams.words import is_name


def read_promise(text):
    need_string(text)
    try:
        promise = promise_in(Scanner(text))
    except NotAText:
        raise BadPromise(text) from None
    return promise


def promise_text(promise):
    need_promise(promise)
    return told_promise(as_tuples(promise))


def promise_in(scanner):
    """The promise that a string is."""
    scanner.skip()
    name = scanner.read_name()
    scanner.need_gap()
    word = scanner.read_word()
    if word not in READERS:
        raise NotAText(scanner.place)
    read = READERS[word]
    promise = read(scanner, name)
    scanner.skip()
    if scanner.ahead() != "":
        raise NotAText(scanner.place)
    return promise


def read_lives(scanner, name):
    return ("lives", name)


def read_bounded(scanner, name):
    return ("bounded", name)


def read_alike(scanner, name):
    scanner.need_gap()
    return ("alike", name, scanner.read_name())


def read_undoes(scanner, name):
    scanner.need_gap()
    other = scanner.read_name()
    scanner.need_gap()
    need_word(scanner, "late")
    return ("undoes", name, other, read_number(scanner))


def read_late(scanner, name):
    return ("late", name, read_number(scanner))


def read_memory(scanner, name):
    return ("memory", name, read_number(scanner))


def read_room(scanner, name):
    return ("room", name, read_number(scanner))


def read_keeps(scanner, name):
    scanner.need_gap()
    need_word(scanner, "energy")
    return ("energy", name)


def read_follows(scanner, name):
    scanner.need_gap()
    scanner.need("0")
    scanner.skip()
    scanner.need("=")
    scanner.skip()
    return ("follows", name, read_rule_terms(scanner))


def read_driven(scanner, name):
    scanner.need_gap()
    need_word(scanner, "by")
    scanner.skip()
    if scanner.ahead() == "":
        return ("driven", name, ())
    return ("driven", name, read_more_names(scanner, [scanner.read_name()]))


def read_number(scanner):
    scanner.need_gap()
    return read_whole(scanner)


def need_word(scanner, word):
    if scanner.read_word() != word:
        raise NotAText(scanner.place)


READERS = {
    "lives": read_lives,
    "alike": read_alike,
    "undoes": read_undoes,
    "late": read_late,
    "bounded": read_bounded,
    "memory": read_memory,
    "room": read_room,
    "keeps": read_keeps,
    "follows": read_follows,
    "driven": read_driven,
}


def is_of_name(told):
    return len(told) == 1 and is_name(told[0])


def is_of_two(told):
    return len(told) == 2 and is_name(told[0]) and is_name(told[1])


def is_of_number(told):
    return len(told) == 2 and is_name(told[0]) and is_within(told[1], 0, FARTHEST)


def is_of_both(told):
    return len(told) == 3 and is_of_two(told[:2]) and is_within(told[2], 0, FARTHEST)


def is_of_rule(told):
    return len(told) == 2 and is_name(told[0]) and is_rule(told[1:])


def is_of_wires(told):
    return len(told) == 2 and is_name(told[0]) and are_names(told[1])


FORMS = {
    "lives": is_of_name,
    "alike": is_of_two,
    "undoes": is_of_both,
    "late": is_of_number,
    "bounded": is_of_name,
    "memory": is_of_number,
    "room": is_of_number,
    "energy": is_of_name,
    "follows": is_of_rule,
    "driven": is_of_wires,
}


def need_promise(value):
    if not is_list(value) or len(value) == 0 or not isinstance(value[0], str) or value[0] not in FORMS:
        raise BadValue(value)
    is_told = FORMS[value[0]]
    if not is_told(value[1:]):
        raise BadValue(value)


def told_promise(promise):
    """The text of a promise that is right."""
    word, name = promise[0], promise[1]
    if word == "energy":
        return f"{name} keeps energy"
    if word == "undoes":
        return f"{name} undoes {promise[2]} late {promise[3]}"
    if word == "follows":
        return f"{name} follows 0 = {rule_terms_text(promise[2])}"
    if word == "driven":
        return f"{name} driven by {names_text(promise[2])}" if promise[2] else f"{name} driven by"
    return " ".join([name, word, *[str(told) for told in promise[2:]]])


def named_in(promise):
    """The names of texts and nets in a promise."""
    return promise[1:3] if promise[0] in ("alike", "undoes") else promise[1:2]


def promise_with(promise, name, new):
    """The promise with another name for a text or a net."""
    named = named_in(promise)
    told = [new if one == name else one for one in named]
    return (promise[0], *told, *promise[1 + len(named):])
