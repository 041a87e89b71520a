"""[2], [19], [78]: lowest diagonals, and the reversible matrices that make them."""

import itertools
import random

from allstreams.lowest import diagonal_paper, lowest_diagonal
from allstreams.polymatrices import PolyMatrix
from allstreams.polys import Poly
from allstreams.quotientmatrices import QuotientMatrix
from allstreams.quotients import Quotient
from allstreams.ratios import Ratio
from tests.helpers import Case, STRANGE, minor_worth, random_poly, reversible

Z = Poly([0, 1])
ONE = Quotient(1, 1)
HALF = Ratio(1, 2)
BOTTOMS = [Poly([1]), Poly([1]), 1 - Z, 1 - 2 * Z, (1 - Z) * (1 - Z), 1 + Z * Z]


def some_quotient(chance):
    top = chance.choice([0, 0, 1, Z, Z * Z, 1 - Z, 2 - Z, random_poly(chance, 1, 3)])
    return Quotient(top, chance.choice(BOTTOMS))


def matrices():
    chance = random.Random(19)
    for _ in range(45):
        height, width = chance.randint(0, 4), chance.randint(0, 4)
        rows = [[some_quotient(chance) for _ in range(width)] for _ in range(height)]
        if height > 1 and chance.random() < 0.4:
            rows[-1] = [entry * (1 - Z) + other for entry, other in zip(rows[0], rows[0])]
        yield QuotientMatrix(rows, width)


def minors(matrix, size):
    for rows in itertools.combinations(range(matrix.height), size):
        for columns in itertools.combinations(range(matrix.width), size):
            yield minor_worth([[matrix.rows[row][column] for column in columns] for row in rows])


def diagonal_by_minors(matrix):
    """The entries as the common factors of all minors of one size tell them, one by another."""
    found, before = [], Quotient(1, 1)
    bottom = matrix.common_bottom()
    for size in range(1, min(matrix.height, matrix.width) + 1):
        whole = bottom.power(size)
        factor = Poly([])
        for minor in minors(matrix, size):
            scaled = minor * whole
            assert scaled.bottom == Poly([1])
            factor = factor.common(scaled.top)
        if factor == Poly([]):
            return found
        now = Quotient(factor, whole)
        found.append((now, before))
        before = now
    return found


class Diagonals(Case):
    def test_told_ones(self):
        loop, late = Quotient(1, 1 - Z), Quotient(Z, 1)
        self.assertEqual(lowest_diagonal(matrix=QuotientMatrix([[loop, 0], [0, 1]])), (loop, ONE))
        self.assertEqual(lowest_diagonal(QuotientMatrix([[1, 0], [0, loop]])), (loop, ONE))
        self.assertEqual(lowest_diagonal(QuotientMatrix([[late, 0], [0, loop]])), (loop, late))
        self.assertEqual(lowest_diagonal(QuotientMatrix([[Z * Z, 0], [0, Z]])), (late, Quotient(Z * Z, 1)))
        self.assertEqual(lowest_diagonal(QuotientMatrix([[2 * Z - 4 * Z * Z]])), (Quotient(Z - 2 * Z * Z, 1),))
        self.assertEqual(lowest_diagonal(QuotientMatrix([[Quotient(3 - Z, 2 - Z)]])), (Quotient(1 - Ratio(1, 3) * Z, 1 - HALF * Z),))
        self.assertEqual(lowest_diagonal(QuotientMatrix([[1 - Z, 0], [0, 1 - 2 * Z]])), (ONE, Quotient((1 - Z) * (1 - 2 * Z), 1)))
        no_common = QuotientMatrix([[Quotient(1, 1 - Z), 0], [0, Quotient(1, 1 - 2 * Z)]])
        self.assertEqual(lowest_diagonal(no_common), (Quotient(1, (1 - Z) * (1 - 2 * Z)), ONE))

    def test_rank_0(self):
        for matrix in (QuotientMatrix([]), QuotientMatrix([], 3), QuotientMatrix([[], []]), QuotientMatrix([[0, 0]] * 3)):
            self.assertEqual(lowest_diagonal(matrix), ())
            left, right = diagonal_paper(matrix)
            self.assertEqual((left.height, left.width, right.height, right.width), (matrix.height,) * 2 + (matrix.width,) * 2)
            self.assertEqual((left.determinant().degree(), right.determinant().degree()), (0, 0))

    def test_a_nought_ahead_of_others(self):
        loop = Quotient(1, 1 - Z)
        for rows in ([[0, 0], [0, loop]], [[0, loop], [0, 0]], [[0, 0], [loop, 0]], [[loop, loop], [loop, loop]]):
            self.assertEqual(lowest_diagonal(QuotientMatrix(rows)), (loop,))

    def test_what_the_minors_tell(self):
        for matrix in matrices():
            told = lowest_diagonal(matrix)
            self.assertIs(type(told), tuple)
            self.assertEqual(len(told), matrix.rank())
            for entry, (now, before) in zip(told, diagonal_by_minors(matrix)):
                # Equal but for a ratio.
                left, right = entry * before, now
                self.assertEqual(left * right.top.parts[right.low()], right * left.top.parts[left.low()])

    def test_the_shape_of_the_entries(self):
        for matrix in matrices():
            told = lowest_diagonal(matrix)
            for entry in told:
                self.assertIs(type(entry), Quotient)
                self.assertEqual(entry.top.parts[entry.low()], Ratio(1))
                self.assertEqual(entry.bottom.parts[0], Ratio(1))
            for entry, behind in zip(told, told[1:]):
                self.assertEqual(behind.top.divided(entry.top)[1], Poly([]))
                self.assertEqual(entry.bottom.divided(behind.bottom)[1], Poly([]))

    def test_it_is_one(self):
        chance = random.Random(20)
        for matrix in matrices():
            left, right = reversible(chance, matrix.height, 3), reversible(chance, matrix.width, 3)
            moved = as_quotients(left) * matrix * as_quotients(right)
            self.assertEqual(lowest_diagonal(moved), lowest_diagonal(matrix))
            self.assertEqual(lowest_diagonal(matrix.turned()), lowest_diagonal(matrix))

    def test_papers(self):
        for matrix in matrices():
            paper = diagonal_paper(matrix=matrix)
            self.assertEqual([type(paper), type(paper[0]), type(paper[1])], [tuple, PolyMatrix, PolyMatrix])
            left, right = paper
            self.assertEqual((left.height, left.width), (matrix.height, matrix.height))
            self.assertEqual((right.height, right.width), (matrix.width, matrix.width))
            self.assertEqual((left.determinant().degree(), right.determinant().degree()), (0, 0))
            told = lowest_diagonal(matrix)
            expected = [
                [told[row] if row == column and row < len(told) else 0 for column in range(matrix.width)]
                for row in range(matrix.height)
            ]
            made = as_quotients(left) * matrix * as_quotients(right)
            self.assertEqual(made, QuotientMatrix(expected, matrix.width))

    def test_wrong_arguments(self):
        for call in (lowest_diagonal, diagonal_paper):
            self.each_bad(call)
            self.each_bad(call, [PolyMatrix([[1]]), Quotient(1, 1), [[1]]])

    def test_arguments_are_left_as_they_are(self):
        matrix = QuotientMatrix([[Z, Quotient(1, 1 - Z)], [2, Z]])
        rows = matrix.rows
        lowest_diagonal(matrix)
        diagonal_paper(matrix)
        self.assertIs(matrix.rows, rows)
        self.assertEqual(matrix, QuotientMatrix([[Z, Quotient(1, 1 - Z)], [2, Z]]))


def as_quotients(matrix):
    return QuotientMatrix(matrix.rows, matrix.width)
