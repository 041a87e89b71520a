"""Rooms: how many items wait at once while a plan is made, and the least of that."""

from allstreams.errors import StandsStill, TooMany
from allstreams.itemwise import order_of_turn
from allstreams.paces import short_paces
from allstreams.plans import turn_of
from allstreams.wiring import need_text

MOST_STANDINGS = 2000


class Search:
    """The standings of a turn that are reached, those that need less room first."""

    def __init__(self, turn):
        first = tuple(turn.noughts())
        self.turn = turn
        self.last_steps = {first: None}
        self.parked = {turn.filling(first): [first]}
        self.reached = []

    def widen(self):
        """Reaches all standings that the next greater room allows; tells this room."""
        room = min(list(self.parked))
        waiting = self.parked.pop(room)
        while waiting:
            standing = waiting.pop()
            self.reached.append(standing)
            for box, behind in self.steps_from(standing):
                self.last_steps[behind] = box
                filling = self.turn.filling(behind)
                if filling <= room:
                    waiting.append(behind)
                else:
                    self.parked[filling] = [*self.parked.get(filling, []), behind]
        return room

    def steps_from(self, standing):
        """Pairs of a box that can step and the standing behind this, if it has not been met yet."""
        pairs = []
        for box in range(len(standing)):
            behind = standing[:box] + (standing[box] + 1,) + standing[box + 1:]
            if behind not in self.last_steps and self.turn.can_go(box, standing):
                pairs.append((box, behind))
        return pairs

    def plan_to(self, standing):
        """The boxes whose steps lead there."""
        plan = []
        box = self.last_steps[standing]
        while box is not None:
            plan.append(box + 1)
            standing = standing[:box] + (standing[box] - 1,) + standing[box + 1:]
            box = self.last_steps[standing]
        return plan[::-1]


def searched(text):
    """A triple: the least room, a plan of this room, and its paper."""
    turn = short_turn(text)
    search = Search(turn)
    done = tuple(turn.many)
    room, paper = 0, []
    while done not in search.reached:
        paper = sorted(search.reached)
        room = search.widen()
    return room, search.plan_to(done), paper


def short_turn(text):
    """The turn of a living text with few standings."""
    need_text(text)
    if order_of_turn(text, short_paces(text)) is None:
        raise StandsStill()
    turn = turn_of(text)
    many = 1
    for steps in turn.many:
        many = many * (steps + 1)
    if many > MOST_STANDINGS:
        raise TooMany(MOST_STANDINGS)
    return turn


def least_room(text):
    room, plan, _ = searched(text)
    return room, plan


def room_paper(text):
    return searched(text)[2]
