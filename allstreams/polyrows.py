"""Rows of polys as rows of integers: their worths at a power of two, from which parts are read off again."""

from math import isqrt

from allstreams.polys import poly_by
from allstreams.wholes import greatest, norm, packed, shared_bottom, unpacked


def whole_entries(entries):
    """A pair: the polys of a row as lists of integers, and the bottom by which all are to be divided."""
    bottom = shared_bottom([part for entry in entries for part in entry.parts])
    return [[part.top * (bottom // part.bottom) for part in entry.parts] for entry in entries], bottom


def minor_bits(rows, most):
    """Bits enough for the parts of each determinant of at most so many rows.

    No part is greater than the greatest worth at numbers of the size 1, and by Hadamard this is not above the
    product of the lengths of the rows. So at 2 to the power of the bits no determinant is 0 that is not 0 as a
    poly.
    """
    lengths = [isqrt(sum([norm(entry) ** 2 for entry in row])) + 1 for row in rows]
    bound = 1
    for length in sorted(lengths, reverse=True)[:most]:
        bound = bound * length
    return bound.bit_length() + 1


def packed_rows(rows, bits):
    return [[packed(entry, bits) for entry in row] for row in rows]


def poly_from(worth, bits, bottom):
    return poly_by(unpacked(worth, bits), bottom)


def multiplied_polys(rows, columns):
    """The rows of the product of rows of Polys and columns of Polys."""
    left = [whole_entries(row) for row in rows]
    right = [whole_entries(column) for column in columns]
    longest = max([sum([norm(entry) for entry in entries]) for entries, _ in left], default=0)
    most = max([greatest(entry) for entries, _ in right for entry in entries], default=0)
    bits = (longest * most).bit_length() + 1
    worths = [[packed(entry, bits) for entry in entries] for entries, _ in right]
    product = []
    for entries, bottom in left:
        line = [packed(entry, bits) for entry in entries]
        sums = [sum([one * two for one, two in zip(line, column)]) for column in worths]
        product = [*product, [poly_from(total, bits, bottom * below) for total, (_, below) in zip(sums, right)]]
    return product
