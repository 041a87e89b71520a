"""The first items of streams: what deal, weave, thin, stretch and hold make of them."""

from allstreams.checks import is_list, is_within, need_within
from allstreams.errors import BadValue
from allstreams.ratios import Ratio, as_ratio, is_ratio, ratio_list

LEAST = 2
MOST = 60


def need_many(value):
    """How many items a thin, a stretch, a hold, a deal or a weave speaks of."""
    need_within(value, LEAST, MOST)


def need_rest(value, many):
    need_within(value, 0, many - 1)


def dealt(items, many):
    told = ratio_list(items)
    need_many(many)
    return [told[rest::many] for rest in range(many)]


def woven(lists):
    told = told_lists(lists)
    many = len(told)
    # The first list that is shorter than the one ahead of it has no item where it is looked for first.
    shortest = min([len(items) for items in told])
    first = [len(items) for items in told].index(shortest)
    return [told[place % many][place // many] for place in range(shortest * many + first)]


def told_lists(lists):
    """New lists of Ratios, as many as can be woven."""
    if not is_list(lists):
        raise BadValue(lists)
    for items in lists:
        if not is_list(items) or not all([is_ratio(item) for item in items]):
            raise BadValue(items)
    if not is_within(len(lists), LEAST, MOST):
        raise BadValue(lists)
    return [[as_ratio(item) for item in items] for items in lists]


def thinned(items, many, rest):
    told = ratio_list(items)
    need_many(many)
    need_rest(rest, many)
    return told[rest::many]


def stretched(items, many):
    told = ratio_list(items)
    need_many(many)
    return [item if place == 0 else Ratio(0) for item in told for place in range(many)]


def held(items, many):
    told = ratio_list(items)
    need_many(many)
    return [item for item in told for _ in range(many)]
