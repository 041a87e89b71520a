"""The machines of codes, and whether two codes do the same."""

from allstreams.codes import need_code
from allstreams.errors import Unlike
from allstreams.likeness import paper_of, parting_told
from allstreams.machines import Machine
from allstreams.naming import added_forms, halves
from allstreams.pairing import lanes_by_names, with_lanes
from allstreams.ratios import Ratio


def kept_cells(code):
    """The cells that are read by the first instruction that names them, ascending."""
    read = {}
    for instruction in code.instructions:
        for cell in cells_read(instruction):
            read.setdefault(cell, True)
        if instruction[0] in ("take", "put", "sum", "pull"):
            read.setdefault(instruction[1], False)
    return sorted([cell for cell in read if read[cell]])


def cells_read(instruction):
    """The cells that an instruction reads, ahead of writing."""
    if instruction[0] == "sum":
        return [cell for _, cell in instruction[2]]
    return [instruction[2]] if instruction[0] in ("push", "give") else []


def machine_of_code(code):
    need_code(code)
    start = [item for ring in code.rings for item in ring]
    kept = kept_cells(code)
    first = len(start)
    start = start + [Ratio(0) for _ in kept]
    puts = [instruction[2] for instruction in code.instructions if instruction[0] == "put"]
    one = None
    if any([ratio.top != 0 for ratio in puts]):
        one = len(start)
        start.append(Ratio(1))
    forming = Forming(code, len(start), one)
    for place, cell in enumerate(kept):
        forming.cells[cell] = {first + place: Ratio(1)}
    for instruction in code.instructions:
        forming.do(instruction)
    new = [form for ring in forming.rings for form in ring] + [forming.cells[cell] for cell in kept]
    if one is not None:
        new.append({one: Ratio(1)})
    many, width = len(start), forming.width
    a, b = halves(new, many, width)
    c, d = halves([form for name, _ in code.outs for form in forming.given[name]], many, width)
    return Machine(a, b, c, d, start, [items for _, items in code.ins], [items for _, items in code.outs])


class Forming:
    """What cells and rings hold in a turn, as forms: multiples of states and in lanes, told by their numbers."""

    def __init__(self, code, states, one):
        self.cells = {}
        self.one = one
        self.coming = {}
        place = states
        for name, many in code.ins:
            self.coming[name] = list(range(place, place + many))
            place += many
        self.width = place
        self.rings = []
        place = 0
        for ring in code.rings:
            self.rings.append([{number: Ratio(1)} for number in range(place, place + len(ring))])
            place += len(ring)
        self.given = {name: [] for name, _ in code.outs}

    def do(self, instruction):
        word, first, second = instruction
        if word == "take":
            self.cells[first] = {self.coming[second].pop(0): Ratio(1)}
        elif word == "put":
            self.cells[first] = {self.one: second} if second.top else {}
        elif word == "sum":
            self.cells[first] = added_forms([(ratio, self.cells[cell]) for ratio, cell in second])
        elif word == "pull":
            self.cells[first] = self.rings[second].pop(0)
        elif word == "push":
            self.rings[first].append(self.cells[second])
        else:
            self.given[first].append(self.cells[second])


def paired_codes(one, other):
    """The machines of two codes, the ins and outs of both in the order of the first."""
    need_code(one)
    need_code(other)
    if dict(one.ins) != dict(other.ins) or dict(one.outs) != dict(other.outs):
        raise Unlike()
    first, second = machine_of_code(one), machine_of_code(other)
    ins = lanes_by_names(names_in(one.ins), names_in(other.ins), second.ins)
    outs = lanes_by_names(names_in(one.outs), names_in(other.outs), second.outs)
    return first, with_lanes(second, ins, outs, first)


def names_in(pairs):
    return [name for name, _ in pairs]


def same_codes(one, other):
    first, second = paired_codes(one, other)
    return paper_of(first, second) is not None


def code_parting(one, other):
    first, second = paired_codes(one, other)
    if paper_of(first, second) is not None:
        return None
    return parting_told(first, second, names_in(one.ins), names_in(one.outs))
