"""Columns of a matrix that are bound by those ahead of them, found by a modulus and then proved."""

from allstreams.grids import columns_of
from allstreams.lifting import solved_by
from allstreams.matrices import Matrix, part_of, whole_rows, zeros
from allstreams.ratios import Ratio
from allstreams.remainders import modulus_of, rests_of
from allstreams.spaces import Steps


def first_relation(matrix):
    """Ratios, the last of them 1, with which the first columns of a Matrix, so many, add up to 0.

    They are as few as can be; None if no column is a sum of multiples of those ahead of it.
    """
    attempt = 0
    while True:
        modulus = modulus_of(attempt)
        try:
            many = independent_columns(matrix, modulus)
            found = relation_by(matrix, many, modulus)
        except ZeroDivisionError:
            found = None
            many = 0
        # What is independent by a prime that divides the modulus is so.
        if many == matrix.width or found is not None:
            return found
        attempt += 1


def independent_columns(matrix, modulus):
    """How many first columns are independent by the modulus."""
    steps = Steps(modulus)
    many = 0
    for column in columns_of(whole_rows(matrix.rows), matrix.width):
        rest = steps.rest(rests_of(column, modulus))
        if not any(rest):
            break
        steps.add_rest(rest)
        many += 1
    return many


def relation_by(matrix, many, modulus):
    """The relation of so many first columns and the next one; None if it is none, or the modulus of no use."""
    if many == matrix.width:
        return None
    steps = Steps(modulus)
    places = []
    for place, row in enumerate(whole_rows(matrix.rows)):
        rest = steps.rest(rests_of(row[:many], modulus))
        if any(rest):
            steps.add_rest(rest)
            places.append(place)
    square, next_one = part_of(matrix, places, list(range(many))), part_of(matrix, places, [many])
    found = solved_by(square, next_one, modulus) if len(places) == many else None
    if found is None:
        return None
    relation = [-row[0] for row in found.rows] + [Ratio(1)]
    whole = part_of(matrix, list(range(matrix.height)), list(range(many + 1)))
    is_nought = whole * Matrix([[part] for part in relation], 1) == zeros(matrix.height, 1)
    return relation if is_nought else None
