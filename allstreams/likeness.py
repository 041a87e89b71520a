"""Whether two texts are alike, what proves it, and where they part otherwise."""

from math import lcm

from allstreams.matrices import Matrix, blocks, zeros
from allstreams.pairing import paired
from allstreams.ratios import Ratio
from allstreams.spaces import at_places, row_space


def alike(one, other):
    return likeness_paper(one, other) is not None


def likeness_paper(one, other):
    first, second = paired(one, other)
    return paper_of(first, second)


def paper_of(first, second):
    """The paper of two machines with the same lanes, None if they do not tell the same."""
    if first.d != second.d:
        return None
    a = blocks([[first.a, zeros(first.size(), second.size())], [zeros(second.size(), first.size()), second.a]])
    c = blocks([[first.c, -second.c]])
    k = row_space(c, a)
    made = blocks([[first.b, column_of(first.start)], [second.b, column_of(second.start)]])
    if k * made != zeros(k.height, made.width):
        return None
    # The rows of k have the identity at their pivots: so what stands there tells the multiples.
    pivots = list(k.pivots())
    return k, at_places(k * a, pivots), at_places(c, pivots)


def column_of(items):
    return Matrix([[item] for item in items], 1)


def first_parting(one, other):
    first, second = paired(one, other)
    if paper_of(first, second) is not None:
        return None
    return parting_told(first, second, one.ins, one.outs)


def parting_told(first, second, ins, outs):
    """The first parting of two machines with the same lanes, whose ins and outs are called so."""
    turn, lane, given = parting_of(first, second)
    number, place = out_of(lane, first.outs)
    streams = {}
    begun = 0
    for name, many in zip(ins, first.ins):
        streams[name] = [Ratio(1 if at == given else 0) for at in range(begun, begun + many)]
        begun += many
    return outs[number], turn * first.outs[number] + place, streams


class Tellings:
    """What a machine tells turn by turn: a column given zeros, and one for each in lane given a 1 in turn 0."""

    def __init__(self, machine):
        self.machine = machine
        self.states = blocks([[column_of(machine.start), zeros(machine.size(), machine.b.width)]])
        self.direct = blocks([[zeros(machine.d.height, 1), machine.d]])
        self.given = blocks([[zeros(machine.size(), 1), machine.b]])

    def next_told(self):
        told = self.machine.c * self.states + self.direct
        self.states = self.machine.a * self.states + self.given
        self.direct = zeros(told.height, told.width)
        self.given = zeros(self.states.height, self.states.width)
        return told


def parting_of(first, second):
    """The first turn and out lane that can differ, and an in lane in which a 1 in turn 0 shows it, or None."""
    times = lane_times(first.outs)
    one, other = Tellings(first), Tellings(second)
    turn = 0
    while True:
        rows = (one.next_told() - other.next_told()).rows
        filled = [[column for column, part in enumerate(row) if part.top != 0] for row in rows]
        apart = [(time, lane) for lane, time in enumerate(times) if filled[lane]]
        if apart:
            lane = min(apart)[1]
            # Column 0 tells what comes of zeros: then no 1 is needed.
            return turn, lane, filled[lane][0] - 1
        turn += 1


def lane_times(outs):
    """When each lane of the outs comes within a turn, in shares of the turn."""
    shares = 1
    for many in outs:
        shares = lcm(shares, many)
    return [lane * (shares // many) for many in outs for lane in range(many)]


def out_of(lane, outs):
    """The number of the out to which a lane belongs, and its place there."""
    number = 0
    while lane >= outs[number]:
        lane = lane - outs[number]
        number += 1
    return number, lane
