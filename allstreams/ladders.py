"""Ladders: steps that change two streams and can be taken back, also when they are rounded."""

from allstreams.checks import is_integer, is_list, is_within, need_list
from allstreams.errors import BadValue
from allstreams.machines import Machine
from allstreams.matrices import Matrix
from allstreams.naming import added_forms
from allstreams.polys import Poly
from allstreams.ratios import Ratio, ratio_list

TAKEN_BACK = {"add": "take", "take": "add"}


class Ladder:
    """A list of steps on two lanes."""

    def __init__(self, rungs):
        for rung in need_list(rungs):
            if not is_rung(rung):
                raise BadValue(rung)
        self.rungs = tuple([tuple(rung) for rung in rungs])

    def __eq__(self, other):
        return isinstance(other, Ladder) and self.rungs == other.rungs

    def run(self, first, second):
        lanes = told_lanes(first, second)
        for rung in self.rungs:
            lanes = stepped(lanes, rung, False)
        return lanes[0], lanes[1]

    def run_rounded(self, first, second):
        lanes = told_lanes(first, second)
        for rung in self.rungs:
            lanes = stepped(lanes, rung, True)
        return lanes[0], lanes[1]

    def lateness(self):
        return sum([rung[2] for rung in self.rungs if rung[0] == "late"])

    def undone(self):
        return Ladder([taken_back(rung) for rung in self.rungs[::-1]])

    def as_machine(self):
        building = Building()
        for rung in self.rungs:
            building.step(rung)
        return building.made()


def is_rung(value):
    if not is_list(value) or len(value) == 0 or not isinstance(value[0], str) or value[0] not in RUNGS:
        return False
    is_told = RUNGS[value[0]]
    return is_told(value[1:])


def is_lane(value):
    return is_within(value, 0, 1)


def is_amount(told):
    return len(told) == 2 and is_lane(told[0]) and isinstance(told[1], Poly)


def is_exchange(told):
    return len(told) == 0


def is_factor(told):
    return len(told) == 2 and is_lane(told[0]) and isinstance(told[1], Ratio) and told[1].top != 0


def is_late(told):
    return len(told) == 2 and is_lane(told[0]) and is_integer(told[1]) and told[1] >= 1


RUNGS = {"add": is_amount, "take": is_amount, "exchange": is_exchange, "factor": is_factor, "late": is_late}


def told_lanes(first, second):
    """The first numbers of the two lanes, alike long."""
    lanes = [ratio_list(first), ratio_list(second)]
    if len(first) != len(second):
        raise BadValue(second)
    return lanes


def stepped(lanes, rung, is_rounded):
    """The lanes behind a step."""
    if rung[0] == "exchange":
        return lanes[::-1]
    word, lane, told = rung
    items, other = lanes[lane], lanes[1 - lane]
    if word == "factor":
        changed = [item * told for item in items]
    elif word == "late":
        changed = ([Ratio(0)] * told + items)[:len(items)]
    else:
        amounts = amounts_of(told, other, is_rounded)
        changed = [item + amount if word == "add" else item - amount for item, amount in zip(items, amounts)]
    return [changed, other] if lane == 0 else [other, changed]


def amounts_of(poly, items, is_rounded):
    """The amounts that a step tells of the other lane."""
    product = poly * Poly(items)
    amounts = [product.part(turn) for turn in range(len(items))]
    if is_rounded:
        return [Ratio((amount + Ratio(1, 2)).floor()) for amount in amounts]
    return amounts


def taken_back(rung):
    """The step that takes a step back, late if it is late."""
    if rung[0] == "exchange":
        return rung
    word, lane, told = rung
    if word == "late":
        return (word, 1 - lane, told)
    if word == "factor":
        return (word, lane, told.inverse())
    return (TAKEN_BACK[word], lane, told)


class Building:
    """The machine of a ladder, step by step; forms tell multiples of the two lanes taken (0, 1) and states (from 2 on).
    """

    def __init__(self):
        self.lanes = [{0: Ratio(1)}, {1: Ratio(1)}]
        self.coming = []

    def step(self, rung):
        if rung[0] == "exchange":
            self.lanes = self.lanes[::-1]
            return
        word, lane, told = rung
        own, other = self.lanes[lane], self.lanes[1 - lane]
        if word == "factor":
            changed = added_forms([(told, own)])
        elif word == "late":
            changed = self.held_back(own, told)[-1]
        else:
            sign = 1 if word == "add" else -1
            past = self.held_back(other, max(told.degree(), 0))
            changed = added_forms([(Ratio(1), own), *[(part * sign, form) for part, form in zip(told.parts, past)]])
        self.lanes = [changed, other] if lane == 0 else [other, changed]

    def held_back(self, form, turns):
        """The forms of what this form told 0, 1 and so on up to so many turns ago."""
        past = [form]
        for _ in range(turns):
            self.coming.append(past[-1])
            past.append({len(self.coming) + 1: Ratio(1)})
        return past

    def made(self):
        many = len(self.coming)
        a, b = parted(self.coming, many)
        c, d = parted(self.lanes, many)
        return Machine(a, b, c, d, [0] * many, [1, 1], [1, 1])


def parted(forms, many):
    """Two matrices: the multiples of the states, so many, and those of the two lanes taken."""
    states = [[form.get(2 + place, 0) for place in range(many)] for form in forms]
    return Matrix(states, many), Matrix([[form.get(lane, 0) for lane in range(2)] for form in forms], 2)
