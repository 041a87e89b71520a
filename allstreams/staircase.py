"""The hermite form of a matrix of polys with an identity right of it; the parts of the polys are integers.

A step is a pair of a column, that of its pivot, and a row. The steps stand by their columns, each pivot has the
last part 1, and the entries above it have lower degrees. Ratios would grow a lot on the way, so all is worked
out on what they leave by a modulus.
"""

from allstreams.remainders import inverse_of, modulus_of, rests_of, shared_bottom_of, whole_from
from allstreams.wholes import greatest, norm, packed, shortened


def staircase(rows, width):
    """A list of triples (column, entries, bottom), a row each: integer lists, to be divided by the bottom.

    Of each row the entries behind the width are the multipliers: times the rows passed they give the others.
    """
    attempt = 0
    found = None
    while found is None:
        found = staircase_by(rows, width, modulus_of(attempt))
        attempt += 1
    return found


def staircase_by(rows, width, modulus):
    """The staircase as this modulus tells it, or None if the modulus is of no use.

    It is enough that the multipliers are right. For by a prime that divides the modulus nothing is lost, so the
    degrees of the pivots add up to that of a determinant, taken of their columns of the rows passed and the
    identity; by a prime a degree can only be too low. But this determinant times that of the multipliers has
    no other degree than the pivots together: so that of the multipliers is a ratio, and they are reversible.
    """
    try:
        steps = steps_by(rows, width, modulus)
    except ZeroDivisionError:
        return None
    found = []
    for column, row in steps:
        bottom = shared_bottom_of([rest for entry in row for rest in entry], modulus)
        if bottom is None:
            return None
        found.append((column, [whole_from(entry, bottom, modulus) for entry in row], bottom))
    return found if are_multiplied([entries for _, entries, _ in found], rows, width) else None


def are_multiplied(found, rows, width):
    """Whether in each row found the entries behind the width are multipliers of the rows for those ahead."""
    sizes = [sum([norm(entry) for entry in entries]) for entries in found]
    most = max([greatest(entry) for row in rows for entry in row], default=0)
    bits = (max(sizes, default=0) * (most + 1)).bit_length() + 1
    worths = [[packed(entry, bits) for entry in row] for row in rows]
    for entries in found:
        told = [packed(entry, bits) for entry in entries]
        sums = [0] * width
        for times, row in zip(told[width:], worths):
            if times:
                sums = [total + times * worth for total, worth in zip(sums, row)]
        if sums != told[:width]:
            return False
    return True


def steps_by(rows, width, modulus):
    """The steps by this modulus."""
    left = []
    for number, row in enumerate(rows):
        beside = [[1] if place == number else [] for place in range(len(rows))]
        left.append([shortened(rests_of(entry, modulus)) for entry in row] + beside)
    steps = []
    for column in range(width + len(rows)):
        pivot, left = met(left, column, modulus)
        if pivot is not None:
            steps.append((column, pivot))
    return tidied(steps, modulus)


def met(rows, column, modulus):
    """Euclid's steps on whole rows: a pair of a row with the common factor in this column and rows with 0 there.

    The first one is None if all have 0 there.
    """
    while True:
        places = [(len(row[column]), row_size(row), at) for at, row in enumerate(rows) if row[column]]
        if not places:
            return None, rows
        at = min(places)[2]
        pivot = monic_row(rows[at], column, modulus)
        others = rows[:at] + rows[at + 1:]
        if len(places) == 1:
            return pivot, others
        rows = [pivot, *[cleared(row, pivot, column, modulus) for row in others]]


def row_size(row):
    return sum([len(entry) for entry in row])


def tidied(steps, modulus):
    """The steps, each lowered by those below it."""
    done = []
    for column, row in steps[::-1]:
        done = [(column, lowered(row, done, modulus)), *done]
    return done


def lowered(row, steps, modulus):
    """The row with lower degrees than the pivots in their columns."""
    for column, pivot in steps:
        row = cleared(row, pivot, column, modulus)
    return row


def monic_row(row, column, modulus):
    """The row by the last part of its entry in this column."""
    lead = row[column][-1]
    if lead == 1:
        return row
    inverse = inverse_of(lead, modulus)
    return [shortened(rests_of([part * inverse for part in entry], modulus)) for entry in row]


def cleared(row, pivot, column, modulus):
    """The row, less a multiple of the pivot's, with a lower degree than the pivot in its column."""
    if len(row[column]) < len(pivot[column]):
        return row
    factor = quotient_by(row[column], pivot[column], modulus)
    return [less(entry, factor, other, modulus) if other else entry for entry, other in zip(row, pivot)]


def quotient_by(one, other, modulus):
    """The quotient by a list whose last part is 1."""
    rest = list(one)
    degree = len(other) - 1
    many = len(one) - degree
    quotient = [0 for _ in range(many)]
    for place in range(many - 1, -1, -1):
        times = rest[place + degree] % modulus
        quotient[place] = times
        if times:
            for number, part in enumerate(other):
                rest[place + number] -= times * part
    return quotient


def less(entry, factor, other, modulus):
    """The entry less the factor times the other one."""
    parts = [*entry, *([0] * (len(factor) + len(other) - 1 - len(entry)))]
    for place, times in enumerate(factor):
        if times:
            for number, part in enumerate(other):
                parts[place + number] -= times * part
    return shortened(rests_of(parts, modulus))
