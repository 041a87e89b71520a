"""Equations whose degrees are as low as can be in their first columns.

A row is one list of integers, the parts of all columns with number 0, then those with number 1, and so on: so to go on
by one turn is to put the width of noughts ahead.
"""

from allstreams.matrices import Matrix
from allstreams.polyrows import whole_entries
from allstreams.wholes import primitive, shortened, whole_parts


def flat_row(entries):
    """The row of Polys, but for a factor."""
    wholes = whole_entries(entries)[0]
    many = max([len(parts) for parts in wholes], default=0)
    return [parts[number] if number < len(parts) else 0 for number in range(many) for parts in wholes]


def row_reduced(rows, width, own):
    """Pairs of a degree in the first columns, own of them, and a row; all rows have the same row sums as these rows.

    The parts with these degrees, in the first columns, are no sums of multiples of each other. None if a row has
    nothing there, though it has something elsewhere.
    """
    left = [shortened(row) for row in rows if any(row)]
    while True:
        pairs = [(own_degree(row, width, own), place) for place, row in enumerate(left)]
        if any([degree is None for degree, _ in pairs]):
            return None
        # Each row that is to be lowered is told by rows of degrees that are not greater.
        pairs = sorted(pairs)
        steps = [(degree, left[place]) for degree, place in pairs]
        leads = Matrix([lead_of(row, degree, width, own) for degree, row in steps], own)
        echelon = leads.turned().echelon()
        pivots = echelon.pivots()
        if len(pivots) == len(steps):
            return steps
        left = []
        for number, (degree, row) in enumerate(steps):
            if number not in pivots:
                column = [line[number] for line in echelon.rows]
                row = lowered_row(row, degree, [(times, steps[at]) for times, at in zip(column, pivots)], width)
            if row:
                left.append(row)


def own_degree(row, width, own):
    """The greatest number of a part in the first columns that is not 0; None if all are."""
    places = [place // width for place, part in enumerate(row) if part and place % width < own]
    return max(places, default=None)


def lead_of(row, degree, width, own):
    lead = row[degree * width:degree * width + own]
    return [*lead, *[0 for _ in range(own - len(lead))]]


def lowered_row(row, degree, terms, width):
    """The row less these multiples of steps of degrees that are not greater, each brought to the degree of the row."""
    used = [(times, [0 for _ in range((degree - low) * width)] + step) for times, (low, step) in terms if times.top]
    factors, bottom = whole_parts([times for times, _ in used])
    many = max([len(row), *[len(step) for _, step in used]])
    total = [bottom * part for part in row] + [0 for _ in range(many - len(row))]
    for times, (_, step) in zip(factors, used):
        total = [one - times * two for one, two in zip(total, step)] + total[len(step):]
    return primitive(shortened(total))
