"""States that are brought to 0 by what is added to them, turn by turn."""

from allstreams.machines import Machine
from allstreams.matrices import identity, zeros
from allstreams.remainders import inverse_of, modulus_of, rests_of
from allstreams.spaces import Steps, ratio_rows, times_columns, whole_columns


def steered(matrix, given, begun):
    """Columns, one for each turn, that bring the states begun, a Matrix of one column, to 0.

    In each turn the states become matrix * states + given * column. There have to be such columns; then there are no
    more of them than states. They are found by a modulus and then proved: by this modulus no fewer are enough.
    """
    attempt = 0
    found = None
    while found is None:
        found = steered_by(matrix, given, begun, modulus_of(attempt))
        attempt += 1
    return found


def steered_by(matrix, given, begun, modulus):
    """The columns as this modulus tells them; None if they are none, or the modulus of no use."""
    try:
        rests = steering_rests(matrix, given, begun, modulus)
    except ZeroDivisionError:
        return None
    if rests is None:
        return None
    told = ratio_rows([[part for column in rests for part in column]], modulus)
    if told is None:
        return None
    columns = [told[0][turn * given.width:(turn + 1) * given.width] for turn in range(len(rests))]
    return columns if is_steered(matrix, given, begun, columns) else None


def steering_rests(matrix, given, begun, modulus):
    """The columns by the modulus; None if there are none."""
    size = matrix.height
    lines = rest_columns(matrix.turned(), modulus)
    states = rest_columns(begun, modulus)[0]
    lanes = list(enumerate(rest_columns(given, modulus)))
    steps = Steps(modulus)
    labels = []
    for turn in range(size + 1):
        # Behind the states stands how often each of the steps is contained.
        rest = steps.rest([*states, *[0 for _ in range(size)]])
        if not any(rest[:size]):
            return columns_by(dict(zip(labels, rest[size:])), turn, given.width)
        kept = []
        for lane, column in lanes:
            new = steps.rest([*column, *[1 if at == len(labels) else 0 for at in range(size)]])
            if any(new[:size]):
                steps.add_rest(new)
                labels.append((turn, lane))
                kept.append((lane, times_columns(column, lines, modulus)))
        lanes = kept
        states = times_columns(states, lines, modulus)
    return None


def rest_columns(matrix, modulus):
    """The columns of a Matrix by the modulus."""
    columns, bottom = whole_columns(matrix)
    scale = inverse_of(bottom, modulus)
    return [rests_of([part * scale for part in column], modulus) for column in columns]


def columns_by(shares, turns, lanes):
    """So many columns; the shares tell by pairs of how many turns are left, and a lane, how much is added there."""
    return [[shares.get((left, lane), 0) for lane in range(lanes)] for left in range(turns - 1, -1, -1)]


def is_steered(matrix, given, begun, columns):
    """Whether these columns bring the states to 0."""
    size, lanes = matrix.height, given.width
    start = [row[0] for row in begun.rows]
    telling = Machine(matrix, given, identity(size), zeros(size, lanes), start, [1] * lanes, [1] * size)
    last = telling.run([*columns, [0] * lanes])[-1]
    return not any([item.top != 0 for item in last])
