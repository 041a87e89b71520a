"""Plans: orders in which the boxes of a text can make the steps of a turn."""

from allstreams.boxsteps import Turn
from allstreams.checks import is_within, need_integer, need_list
from allstreams.errors import BadValue, StandsStill
from allstreams.paces import short_paces, steps_of_turn
from allstreams.wiring import need_text


def first_plan(text):
    need_text(text)
    turn = turn_of(text)
    standing = turn.noughts()
    plan = []
    box = next_box(turn, standing)
    # No step keeps another one from being made: so the least box that can step is always right.
    while box is not None:
        standing[box] = standing[box] + 1
        plan.append(box + 1)
        box = next_box(turn, standing)
    if not turn.is_done(standing):
        raise StandsStill()
    return plan


def turn_of(text):
    return Turn(text, short_paces(text), steps_of_turn(text))


def next_box(turn, standing):
    """The first box that can step, counted from 0; None if none can."""
    for box in range(len(standing)):
        if turn.can_go(box, standing):
            return box
    return None


def is_plan(text, boxes):
    need_text(text)
    need_boxes(boxes)
    return told_fillings(turn_of(text), boxes) is not None


def need_boxes(values):
    for value in need_list(values):
        need_integer(value)


def fillings(text, plan):
    need_text(text)
    need_boxes(plan)
    told = told_fillings(turn_of(text), plan)
    if told is None:
        raise BadValue(plan)
    return told


def told_fillings(turn, plan):
    """The fillings at the beginning and behind each step; None if this is no plan."""
    standing = turn.noughts()
    if len(plan) != sum(turn.many):
        return None
    told = [turn.filling(standing)]
    for box in plan:
        if not is_within(box, 1, len(standing)) or not turn.can_go(box - 1, standing):
            return None
        standing[box - 1] = standing[box - 1] + 1
        told.append(turn.filling(standing))
    return told
