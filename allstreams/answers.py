"""What is asked of texts and nets: pairs of whether it holds, and of a paper, which is told if it is wanted."""

from allstreams.driving import can_drive, free_beginnings
from allstreams.energy import energy_breaker
from allstreams.equations import net_of, rule_rows
from allstreams.errors import HasLoops, HasSource, StandsStill, Unknown, Unlike, Unpaced
from allstreams.following import breaker
from allstreams.forms import alike_nets
from allstreams.givenback import gives_back, wrong_item
from allstreams.growth import bounded_paper, is_bounded
from allstreams.least import least_machine, memory, memory_paper
from allstreams.likeness import alike, first_parting, likeness_paper
from allstreams.naming import machine_of
from allstreams.needs import standing_ring
from allstreams.plans import first_plan
from allstreams.relations import each_multipliers
from allstreams.rooms import least_room, room_paper
from allstreams.undoing import least_late, twins, undo


class Shelf:
    """The texts and the nets of a file, by their names."""

    def __init__(self, texts, nets):
        self.texts = texts
        self.nets = nets

    def text_called(self, name):
        if name not in self.texts:
            raise Unknown(name)
        return self.texts[name]

    def net_called(self, name):
        if name not in self.nets:
            raise Unknown(name)
        return self.nets[name]

    def need_called(self, name):
        if name not in self.texts and name not in self.nets:
            raise Unknown(name)

    def as_net(self, name):
        """A net, or that of a text."""
        return self.nets[name] if name in self.nets else net_of(self.texts[name])


def answer_to(shelf, promise, is_wanted):
    """The pair; nothing holds where one of these errors stands in the way."""
    answer = ANSWERS[promise[0]]
    try:
        pair = answer(shelf, promise, is_wanted)
    except (Unknown, Unpaced, StandsStill, Unlike, HasSource, HasLoops):
        return False, None
    return pair


def told_lives(shelf, promise, is_wanted):
    text = shelf.text_called(promise[1])
    ring = standing_ring(text)
    if ring is not None:
        return False, ring
    return True, first_plan(text) if is_wanted else None


def told_alike(shelf, promise, is_wanted):
    names = promise[1:]
    for name in names:
        shelf.need_called(name)
    if not all([name in shelf.texts for name in names]):
        return alike_nets(shelf.as_net(names[0]), shelf.as_net(names[1])), None
    one, other = shelf.texts[names[0]], shelf.texts[names[1]]
    if not is_wanted:
        return alike(one, other), None
    paper = likeness_paper(one, other)
    return (False, first_parting(one, other)) if paper is None else (True, paper)


def told_undoes(shelf, promise, is_wanted):
    _, second, first, late = promise
    texts = [shelf.text_called(second), shelf.text_called(first)]
    if gives_back(texts[0], texts[1], late):
        return True, None
    return False, wrong_item(texts[0], texts[1], late) if is_wanted else None


def told_late(shelf, promise, is_wanted):
    machine = machine_of(shelf.text_called(promise[1]))
    least = least_late(machine)
    if least is None or least > promise[2]:
        return False, twins(machine, promise[2]) if is_wanted else None
    return True, undo(machine, promise[2]) if is_wanted else None


def told_bounded(shelf, promise, is_wanted):
    machine = machine_of(shelf.text_called(promise[1]))
    if not is_bounded(machine):
        return False, None
    return True, bounded_paper(machine) if is_wanted else None


def told_memory(shelf, promise, is_wanted):
    machine = machine_of(shelf.text_called(promise[1]))
    if memory(machine) > promise[2]:
        return False, memory_paper(machine) if is_wanted else None
    return True, least_machine(machine) if is_wanted else None


def told_room(shelf, promise, is_wanted):
    text = shelf.text_called(promise[1])
    room, plan = least_room(text)
    if room > promise[2]:
        return False, room_paper(text) if is_wanted else None
    return True, plan


def told_energy(shelf, promise, is_wanted):
    found = energy_breaker(machine_of(shelf.text_called(promise[1])))
    return found is None, found


def told_follows(shelf, promise, is_wanted):
    _, name, terms = promise
    net = shelf.net_called(name)
    if len({net.paces.get(wire): True for _, wire, _ in terms}) != 1 or terms[0][1] not in net.paces:
        return False, None
    rows = rule_rows(net, terms).rows
    found = each_multipliers(rows, net.rows)
    broken = [row for row, multipliers in zip(rows, found) if multipliers is None]
    if broken:
        return False, breaker(net, broken[0]) if is_wanted else None
    return True, tuple(found)


def told_driven(shelf, promise, is_wanted):
    _, name, wires = promise
    net = shelf.net_called(name)
    if len({wire: True for wire in wires}) < len(wires) or not all([wire in net.ends for wire in wires]):
        return False, None
    if not can_drive(net, wires):
        return False, None
    return True, free_beginnings(net, wires)


ANSWERS = {
    "lives": told_lives,
    "alike": told_alike,
    "undoes": told_undoes,
    "late": told_late,
    "bounded": told_bounded,
    "memory": told_memory,
    "room": told_room,
    "energy": told_energy,
    "follows": told_follows,
    "driven": told_driven,
}
