"""Texts put together: wires named anew, texts behind each other, and ins fed back."""

from allstreams.checks import need_string
from allstreams.errors import BadValue, Taken, Unknown
from allstreams.statements import called_anew
from allstreams.wiring import Text, need_text
from allstreams.words import is_name


def renamed(text, names):
    need_text(text)
    if not is_dict_of_strings(names) or not all([is_name(names[name]) for name in names]):
        raise BadValue(names)
    need_known(list(names), text.wires())
    seen = {}
    for wire in text.wires():
        new = names.get(wire, wire)
        if new in seen:
            raise Taken(new)
        seen[new] = True
    ins = [names.get(name, name) for name in text.ins]
    outs = [names.get(name, name) for name in text.outs]
    return Text(text.name, ins, outs, [called_anew(statement, names, "") for statement in text.statements])


def behind(first, second, ties):
    need_text(first)
    need_text(second)
    if not is_dict_of_strings(ties) or not ties or not all([isinstance(ties[name], str) for name in ties]):
        raise BadValue(ties)
    need_known(list(ties), second.ins)
    wires = first.wires()
    need_known([ties[name] for name in ties], wires)
    for wire in second.wires():
        if wire not in ties and wire in wires:
            raise Taken(wire)
    ins = [name for name in second.ins if name not in ties]
    rows = [called_anew(statement, ties, "") for statement in second.statements]
    return Text(second.name, [*first.ins, *ins], second.outs, [*first.statements, *rows])


def fed_back(text, name, wire):
    need_text(text)
    need_string(name)
    need_string(wire)
    need_known([name], text.ins)
    need_known([wire], text.wires())
    if wire == name:
        raise BadValue(wire)
    ins = [other for other in text.ins if other != name]
    rows = [called_anew(statement, {name: wire}, "") for statement in text.statements]
    return Text(text.name, ins, text.outs, rows)


def is_dict_of_strings(value):
    return isinstance(value, dict) and all([isinstance(key, str) for key in value])


def need_known(names, told):
    """Each of the names is among those told; they are looked at in ascending order."""
    for name in sorted(names):
        if name not in told:
            raise Unknown(name)
