"""Codes: instructions on cells and rings that are done alike in each turn."""

from allstreams.checks import is_integer, is_list, is_within, need_list, need_whole
from allstreams.errors import BadCode, BadValue
from allstreams.printer import terms_text
from allstreams.ratios import Ratio, as_ratio, is_ratio
from allstreams.words import is_name

# What stands behind the word of an instruction.
KINDS = {
    "take": ("cell", "in"),
    "put": ("cell", "ratio"),
    "sum": ("cell", "terms"),
    "pull": ("cell", "ring"),
    "push": ("ring", "cell"),
    "give": ("out", "cell"),
}


class Code:
    """Ins and outs with their numbers of items, cells, what rings hold at first, and instructions."""

    def __init__(self, ins, outs, cells, rings, instructions):
        need_pairs(ins)
        need_pairs(outs)
        if len(outs) == 0:
            raise BadValue(outs)
        need_whole(cells)
        for ring in need_list(rings):
            if not is_list(ring) or not all([is_ratio(item) for item in ring]):
                raise BadValue(ring)
        need_list(instructions)
        self.ins = tuple([tuple(pair) for pair in ins])
        self.outs = tuple([tuple(pair) for pair in outs])
        self.cells = cells
        self.rings = tuple([tuple([as_ratio(item) for item in ring]) for ring in rings])
        self.instructions = tuple(instructions)
        fault = first_fault(self)
        if fault is not None:
            raise BadCode(fault)

    def __eq__(self, other):
        if not isinstance(other, Code) or self.ins != other.ins or self.outs != other.outs:
            return False
        if self.cells != other.cells or self.rings != other.rings:
            return False
        return self.instructions == other.instructions


def need_code(value):
    if not isinstance(value, Code):
        raise BadValue(value)


def need_pairs(pairs):
    """Pairs of a name and how many items, the names all unlike."""
    for pair in need_list(pairs):
        if not is_list(pair) or len(pair) != 2 or not is_name(pair[0]) or not is_integer(pair[1]) or pair[1] < 1:
            raise BadValue(pair)
    if len({name: True for name, _ in pairs}) < len(pairs):
        raise BadValue(pairs)


def first_fault(code):
    """The number of the first wrong instruction, one more than there are if the end of the turn is wrong, or None."""
    takes, gives = dict(code.ins), dict(code.outs)
    held = [len(ring) for ring in code.rings]
    for number, instruction in enumerate(code.instructions, start=1):
        if not is_instruction(code, instruction):
            return number
        word, first, second = instruction
        if word == "take":
            takes[second] = takes[second] - 1
        elif word == "give":
            gives[first] = gives[first] - 1
        elif word == "pull":
            held[second] = held[second] - 1
        elif word == "push":
            held[first] = held[first] + 1
        if min(list(takes.values()) + list(gives.values()) + held) < 0:
            return number
    if any(list(takes.values()) + list(gives.values())) or held != [len(ring) for ring in code.rings]:
        return len(code.instructions) + 1
    return None


def is_instruction(code, value):
    """Whether the value is an instruction that names what the code has."""
    if not isinstance(value, tuple) or len(value) != 3 or not isinstance(value[0], str) or value[0] not in KINDS:
        return False
    kinds = KINDS[value[0]]
    return is_told(code, kinds[0], value[1]) and is_told(code, kinds[1], value[2])


def is_told(code, kind, value):
    """Whether the value is one of this kind."""
    if kind == "cell":
        return is_within(value, 0, code.cells - 1)
    if kind == "ring":
        return is_within(value, 0, len(code.rings) - 1)
    if kind == "ratio":
        return isinstance(value, Ratio)
    if kind == "terms":
        return isinstance(value, tuple) and all([is_term(code, term) for term in value])
    names = [name for name, _ in (code.ins if kind == "in" else code.outs)]
    return isinstance(value, str) and value in names


def is_term(code, value):
    if not isinstance(value, tuple) or len(value) != 2:
        return False
    return isinstance(value[0], Ratio) and is_told(code, "cell", value[1])


def code_text(code):
    need_code(code)
    return "".join([instruction_text(instruction) + "\n" for instruction in code.instructions])


def instruction_text(instruction):
    word, first, second = instruction
    if word == "push":
        return f"push r{first} c{second}"
    if word == "give":
        return f"give {first} c{second}"
    if word == "pull":
        return f"pull c{first} r{second}"
    if word == "sum":
        terms = terms_text([(ratio, f"c{cell}") for ratio, cell in second]) if second else "0"
        return f"sum c{first} {terms}"
    return f"{word} c{first} {str(second)}"
