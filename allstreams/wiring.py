"""Texts of boxes: which wires there are, who gives them and who takes them."""

from allstreams.calls import Calls, Draft
from allstreams.checks import need_list
from allstreams.errors import Apart, BadValue, NoGiver, TwoGivers
from allstreams.statements import given_of, is_statement, taken_of
from allstreams.words import is_name


class Text:
    """Boxes wired to each other, told by statements without calls."""

    def __init__(self, name, ins, outs, statements, others=()):
        if not is_name(name):
            raise BadValue(name)
        need_unlike_names(ins)
        need_unlike_names(outs)
        if len(outs) == 0:
            raise BadValue(outs)
        need_statements(statements)
        need_others(others, name)
        draft = Draft(name, ins, outs, statements)
        drafts = [Draft(other.name, other.ins, other.outs, other.statements) for other in others]
        self.name = name
        self.ins = draft.ins
        self.outs = draft.outs
        self.statements = tuple(Calls([draft, *drafts]).unfolded(draft))
        need_givers(self.ins, self.statements)
        need_given(self.ins, self.outs, self.statements)
        if any([out in self.ins for out in self.outs]):
            raise BadValue(outs)
        need_together(self.wires(), [given_of(statement) + taken_of(statement) for statement in self.statements])

    def __eq__(self, other):
        if not isinstance(other, Text) or self.name != other.name:
            return False
        return self.ins == other.ins and self.outs == other.outs and self.statements == other.statements

    def wires(self):
        """The names of all wires: ins, then as boxes give them."""
        return self.ins + tuple([name for statement in self.statements for name in given_of(statement)])

    def taken(self):
        """For each wire the numbers of the boxes that take it."""
        takers = {wire: [] for wire in self.wires()}
        for number, statement in enumerate(self.statements, start=1):
            # A box that takes a wire at several places is told once.
            for wire in {name: True for name in taken_of(statement)}:
                takers[wire].append(number)
        return {wire: tuple(takers[wire]) for wire in takers}


def need_text(value):
    if not isinstance(value, Text):
        raise BadValue(value)


def need_unlike_names(names):
    for name in need_list(names):
        if not is_name(name):
            raise BadValue(name)
    if len({name: True for name in names}) < len(names):
        raise BadValue(names)


def need_statements(statements):
    for statement in need_list(statements):
        if not is_statement(statement):
            raise BadValue(statement)


def need_others(others, name):
    """Texts that a text of this name may call."""
    for other in need_list(others):
        need_text(other)
    names = {other.name: True for other in others}
    if len(names) < len(others) or name in names:
        raise BadValue(others)


def need_givers(ins, statements):
    """No wire is given twice."""
    given = {name: True for name in ins}
    for statement in statements:
        for name in given_of(statement):
            if name in given:
                raise TwoGivers(name)
            given[name] = True


def need_given(ins, outs, statements):
    """Each wire that is taken is given, and each out."""
    given = {name: True for name in ins}
    for statement in statements:
        for name in given_of(statement):
            given[name] = True
    for name in [name for statement in statements for name in taken_of(statement)] + list(outs):
        if name not in given:
            raise NoGiver(name)


def need_together(wires, groups):
    """All wires hang together with the first one, by groups of wires that one box names."""
    reached = {wires[0]: True}
    apart = list(groups)
    many = len(apart) + 1
    # In each round at least one group is reached, or no more of them can be.
    while len(apart) < many:
        many = len(apart)
        left = []
        for names in apart:
            if any([name in reached for name in names]):
                for name in names:
                    reached[name] = True
            else:
                left.append(names)
        apart = left
    for wire in wires:
        if wire not in reached:
            raise Apart(wire)
