"""States that are brought to 0 by what is added to them, turn by turn."""

from allstreams.fresh import Sight, lifted
from allstreams.ratios import Ratio
from allstreams.remainders import modulus_of
from allstreams.sweeping import line_after
from allstreams.wholes import whole_parts


def steered(matrix, given, begun):
    """Columns, one for each turn, that bring the states begun, a Matrix of one column, to 0.

    In each turn the states become matrix * states + given * column. There have to be such columns; then there are no
    more of them than states. They are found by a modulus and then proved: by this modulus no fewer are enough.
    """
    attempt = 0
    found = None
    while found is None:
        found = steered_by(matrix, given, begun, modulus_of(attempt))
        attempt += 1
    return found


def steered_by(matrix, given, begun, modulus):
    """The columns as this modulus tells them; None if they are none, or the modulus of no use."""
    try:
        # What is added by a column so many turns ahead stands in the rows of a turned machine.
        sight = Sight(given.turned(), matrix.turned(), modulus)
        states = whole_parts([row[0] for row in begun.rows])
        for turn in range(matrix.height + 1):
            rest, shares = sight.sweep.swept(states[0])
            if not any(rest):
                multiples = lifted(sight.sweep, sight.seen, states, shares)
                return columns_by(dict(zip(sight.labels, multiples)), turn, given.width)
            sight.look()
            states = line_after(states, sight.filled, sight.bottom)
    except ZeroDivisionError:
        return None
    return None


def columns_by(multiples, turns, lanes):
    """So many columns that take away what is told by pairs of how many turns are left, and a lane."""
    return [[-multiples.get((left, lane), Ratio(0)) for lane in range(lanes)] for left in range(turns - 1, -1, -1)]
