"""The energy of finite streams, and machines that keep it."""

from allstreams.errors import HasLoops
from allstreams.machines import first_answers
from allstreams.matrices import identity, zeros
from allstreams.polymatrices import poly_matrix
from allstreams.ratios import Ratio
from allstreams.stairs import is_loopless


def keeps_energy(machine):
    return energy_breaker(machine) is None


def energy_breaker(machine):
    """One or two 1s whose outs, at rest, have another energy than they have; None if there are none."""
    answers = loopless_answers(machine)
    last = len(answers) - 1
    # Part last + k of the product tells, for two lanes, what the answers to a 1 and to one k turns later share.
    shared = poly_matrix([answer.turned() for answer in answers[::-1]]) * poly_matrix(answers)
    lanes = machine.b.width
    for turn in range(last + 1):
        rest = shared.part(last + turn) - (identity(lanes) if turn == 0 else zeros(lanes, lanes))
        ones = [(row, column) for row in range(lanes) for column in range(lanes) if rest.rows[row][column].top != 0]
        # Two 1s in one turn may hide that one of them alone has another energy.
        own = [(lane, other) for lane, other in ones if lane == other]
        if ones:
            later, first = (own or ones)[0]
            return [
                [Ratio(1 if (at, lane) in ((0, first), (turn, later)) else 0) for lane in range(lanes)]
                for at in range(turn + 1)
            ]
    return None


def loopless_answers(machine):
    """All answers of a loopless machine that are not 0, and some behind them."""
    if not is_loopless(machine):
        raise HasLoops()
    return first_answers(machine, machine.size() + 1)
