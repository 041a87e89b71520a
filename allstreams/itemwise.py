"""What the items of the wires that boxes give are made of, and in which order the items of a turn come."""

from allstreams.ratios import Ratio
from allstreams.statements import given_of, taken_of


def made_of(statement, wire, place):
    """The pairs (wire, place) of the items of which a box makes the item at this place of a wire that it gives."""
    word, taken = statement[0], taken_of(statement)
    if word == "source":
        return []
    if word == "sum":
        return [(name, place) for name in taken]
    if word == "delay":
        many = len(statement[2])
        return [(taken[0], place - many)] if place >= many else []
    if word == "thin":
        return [(taken[0], statement[2] * place + statement[3])]
    if word == "stretch":
        many = statement[2]
        return [] if place % many else [(taken[0], place // many)]
    if word == "hold":
        return [(taken[0], place // statement[2])]
    if word == "deal":
        names = statement[1]
        return [(taken[0], len(names) * place + names.index(wire))]
    return [(taken[place % len(taken)], place // len(taken))]


def worth_of(statement, wire, place, streams):
    """The item at this place of a wire that a box gives; streams has the items of which it is made."""
    word = statement[0]
    if word == "sum":
        total = Ratio(0)
        for ratio, name in statement[2]:
            total = total + ratio * streams[name][place]
        return total
    if word == "source":
        return statement[2][place % len(statement[2])]
    if word == "delay" and place < len(statement[2]):
        return statement[2][place]
    for name, at in made_of(statement, wire, place):
        return streams[name][at]
    return Ratio(0)


def givers_of(text):
    """The statement of the box that gives it for each wire that a box gives."""
    return {wire: statement for statement in text.statements for wire in given_of(statement)}


def needed_items(givers, wire, place):
    """The items that an item needs, ascending, each once."""
    needed = {(wire, place - 1): True} if place > 0 else {}
    if wire in givers:
        for pair in made_of(givers[wire], wire, place):
            needed[pair] = True
    return sorted(list(needed))


def needs_of_turn(text, told):
    """What each item of turn 0 needs; all this is in turn 0. told are the paces."""
    givers = givers_of(text)
    return {(wire, place): needed_items(givers, wire, place) for wire in text.wires() for place in range(told[wire])}


def in_order(needs):
    """The items that come, each behind those that it needs."""
    missing = {item: len(needs[item]) for item in needs}
    needed_by = {item: [] for item in needs}
    for item in needs:
        for one in needs[item]:
            needed_by[one].append(item)
    ready = [item for item in needs if missing[item] == 0]
    done = []
    while ready:
        item = ready.pop()
        done.append(item)
        for other in needed_by[item]:
            missing[other] = missing[other] - 1
            if missing[other] == 0:
                ready.append(other)
    return done


def order_of_turn(text, told):
    """The items of turn 0, each behind those that it needs; None if the text stands still."""
    needs = needs_of_turn(text, told)
    order = in_order(needs)
    return order if len(order) == len(needs) else None
