"""Needs: which items an item is made of, and whether all items of a text come."""

from allstreams.checks import need_string, need_whole
from allstreams.errors import Unknown
from allstreams.itemwise import givers_of, in_order, needed_items, needs_of_turn
from allstreams.paces import short_paces
from allstreams.wiring import need_text


def lives(text):
    return standing_ring(text) is None


def standing_ring(text):
    """Items of turn 0, each of which needs the one behind it, and the last one the first; None if it lives."""
    need_text(text)
    needs = needs_of_turn(text, short_paces(text))
    come = {item: True for item in in_order(needs)}
    stuck = [item for item in needs if item not in come]
    if not stuck:
        return None
    # What does not come needs something that does not come: so the way from it never ends, and is met again.
    way, places = [], {}
    item = stuck[0]
    while item not in places:
        places[item] = len(way)
        way.append(item)
        item = [one for one in needs[item] if one not in come][0]
    return tuple(way[places[item]:])


def needs_of(text, name, place):
    need_text(text)
    need_string(name)
    need_whole(place)
    short_paces(text)
    if name not in text.wires():
        raise Unknown(name)
    return needed_items(givers_of(text), name, place)
