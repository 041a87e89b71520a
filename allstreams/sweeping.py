"""Rows by a modulus, swept by steps, and how often each row taken up is contained in another one.

The steps are not cleared behind their pivots: so a row is swept in their order, and what it is made of is told by the
shares that have been taken away.
"""

from math import gcd

from allstreams.remainders import inverse_of, rests_of
from allstreams.wholes import content, shared_bottom


class Sweep:
    """Steps, rows with 1 at their pivots, where all later ones have 0; of each row taken up its shares of the steps."""

    def __init__(self, modulus):
        self.modulus = modulus
        self.found = []
        self.shares = []

    def swept(self, row):
        """A pair: what is left of a row of integers, and how often each step has been taken away."""
        total = [part % self.modulus for part in row]
        shares = []
        for pivot, step in self.found:
            share = total[pivot] % self.modulus
            shares.append(share)
            if share:
                total = [one - share * two for one, two in zip(total, step)]
        return rests_of(total, self.modulus), shares

    def take(self, rest, shares):
        """Takes up a row of which something is left; ZeroDivisionError if the modulus is of no use."""
        pivot = [place for place, part in enumerate(rest) if part][0]
        inverse = inverse_of(rest[pivot], self.modulus)
        self.found.append((pivot, rests_of([part * inverse for part in rest], self.modulus)))
        self.shares.append((shares, inverse))

    def multiples(self, shares):
        """How often each of the first rows taken up is contained in a row with these shares of their steps."""
        left = list(shares)
        told = []
        while left:
            own, inverse = self.shares[len(left) - 1]
            times = left.pop() * inverse % self.modulus
            told.append(times)
            if times:
                left = [one - times * two for one, two in zip(left, own)]
        return told[::-1]


def filled_columns(matrix):
    """For each column of a Matrix the pairs (row, integer) of entries other than 0, and one bottom for all of them."""
    bottom = shared_bottom([entry for row in matrix.rows for entry in row])
    columns = [[] for _ in range(matrix.width)]
    for place, row in enumerate(matrix.rows):
        for column, entry in enumerate(row):
            if entry.top:
                columns[column].append((place, entry.top * (bottom // entry.bottom)))
    return columns, bottom


def line_after(line, columns, bottom):
    """The product of a line, integers and a bottom, and a Matrix, told by such columns; in lowest terms."""
    parts, below = line
    product = [sum([parts[place] * part for place, part in column]) for column in columns]
    below = below * bottom
    if below == 1:
        return product, 1
    shared = gcd(below, content(product))
    return [part // shared for part in product], below // shared
