"""[2], [16] to [18], [79]: relations between rows, and rows that are sums of multiples of others."""

import random

from allstreams.hermite import hermite
from allstreams.matrices import Matrix
from allstreams.polymatrices import PolyMatrix
from allstreams.polys import Poly
from allstreams.quotients import Quotient
from allstreams.ratios import Ratio
from allstreams.relations import has_rows, left_relations, multipliers_of
from tests.helpers import Case, STRANGE, random_poly, random_polys

S = Poly([0, 1])
NOUGHT = Poly([])
NO_LISTS = [value for value in STRANGE if not isinstance(value, (list, tuple))]


def matrices():
    chance = random.Random(18)
    for _ in range(50):
        height, width = chance.randint(0, 5), chance.randint(0, 3)
        if chance.random() < 0.5:
            most = chance.randint(0, 2)
            yield random_polys(chance, height, most, 1, 3) * random_polys(chance, most, width, 1, 3)
        else:
            yield random_polys(chance, height, width, 2, 4, 3)
    yield PolyMatrix([[Ratio(1, 6) * S, 1], [Ratio(1, 10) * S, Ratio(3, 5)], [0, 0]])
    yield PolyMatrix([[0, 0], [0, 0]])


class Relations(Case):
    def test_told_ones(self):
        self.assertEqual(left_relations(matrix=PolyMatrix([[S * S - S], [S - 1]])), PolyMatrix([[1, -S]]))
        self.assertEqual(left_relations(PolyMatrix([[2], [Ratio(1, 3)]])), PolyMatrix([[1, -6]]))
        self.assertEqual(left_relations(PolyMatrix([[S], [S - 1]])), PolyMatrix([[S - 1, -S]]))
        self.assertEqual(left_relations(PolyMatrix([[0, 0]])), PolyMatrix([[1]]))
        self.assertEqual(left_relations(PolyMatrix([[0], [0]])), PolyMatrix([[1, 0], [0, 1]]))
        self.assertEqual(left_relations(PolyMatrix([[], []])), PolyMatrix([[1, 0], [0, 1]]))

    def test_none(self):
        self.assertEqual(left_relations(PolyMatrix([[S, 0], [1, S]])), PolyMatrix([], 2))
        self.assertEqual(left_relations(PolyMatrix([[0, S]])), PolyMatrix([], 1))
        self.assertEqual(left_relations(PolyMatrix([], 3)), PolyMatrix([]))

    def test_they_are_relations(self):
        for matrix in matrices():
            told = left_relations(matrix)
            self.assertIs(type(told), PolyMatrix)
            self.assertEqual((told.height, told.width), (matrix.height - matrix.rank(), matrix.height))
            self.assertEqual(hermite(told)[0], told)
            self.assertEqual((told * matrix).degree(), -1)

    def test_no_relation_is_lost(self):
        """What is told can be completed to a reversible matrix: no factor can be taken out of it."""
        for matrix in matrices():
            told = left_relations(matrix)
            form = hermite(told.turned())[0]
            self.assertEqual(form, PolyMatrix([[1 if row == column else 0 for column in range(told.height)]
                                               for row in range(told.height)], told.height))

    def test_wrong_arguments(self):
        self.each_bad(left_relations)
        self.each_bad(left_relations, [Matrix([[1]]), Poly([1])])


class Multipliers(Case):
    def test_told_ones(self):
        column = PolyMatrix([[S * S - S], [S - 1]])
        self.assertIsNone(multipliers_of(row=[S], matrix=column))
        told = multipliers_of([S - 1], column)
        self.assertIs(type(told), tuple)
        self.assertEqual(told[0] * (S * S - S) + told[1] * (S - 1), S - 1)
        self.assertEqual(multipliers_of((2, 3), PolyMatrix([[1, 0], [0, Ratio(1, 2)]])), (Poly([2]), Poly([6])))

    def test_the_edges(self):
        self.assertEqual(multipliers_of([], PolyMatrix([])), ())
        self.assertEqual(multipliers_of([0, 0], PolyMatrix([], 2)), ())
        self.assertIsNone(multipliers_of([0, 1], PolyMatrix([], 2)))
        self.assertEqual(len(multipliers_of([], PolyMatrix([[], []]))), 2)
        self.assertEqual(len(multipliers_of([0], PolyMatrix([[0]]))), 1)
        self.assertIsNone(multipliers_of([1], PolyMatrix([[0], [0]])))
        # A multiple of a row sum, but none itself; and a sum in one column, but not in the other.
        self.assertIsNone(multipliers_of([1], PolyMatrix([[S]])))
        self.assertIsNone(multipliers_of([S, 1], PolyMatrix([[S, 0]])))

    def test_row_sums(self):
        chance = random.Random(79)
        for matrix in matrices():
            times = random_polys(chance, 1, matrix.height, 2, 3)
            row = list((times * matrix).rows[0])
            kept = list(row)
            told = multipliers_of(row, matrix)
            self.assertEqual([type(entry) for entry in told], [Poly] * matrix.height)
            self.assertEqual((PolyMatrix([told], matrix.height) * matrix).rows, PolyMatrix([row], matrix.width).rows)
            self.assertEqual(row, kept)

    def test_other_rows(self):
        chance = random.Random(80)
        for matrix in matrices():
            row = [random_poly(chance, 1, 3) for _ in range(matrix.width)]
            more = PolyMatrix([*matrix.rows, row], matrix.width)
            sums = hermite(more)[0] == hermite(matrix)[0]
            told = multipliers_of(row, matrix)
            self.assertEqual(told is not None, sums)
            if sums:
                self.assertEqual((PolyMatrix([told], matrix.height) * matrix).rows[0], tuple(row))

    def test_wrong_arguments(self):
        matrix = PolyMatrix([[S, 1]])
        self.each_bad(lambda value: multipliers_of("x", value))
        self.each_bad(lambda value: multipliers_of(value, matrix), NO_LISTS)
        self.each_bad(lambda value: multipliers_of([S, value, "x"], matrix))
        loop = Quotient(1, 1 - S)
        self.bad(loop, lambda: multipliers_of([loop], matrix))
        for row in ([], [S], [S, 1, 0]):
            self.bad(matrix, lambda: multipliers_of(row, matrix))


class Rows(Case):
    def test_told_ones(self):
        one = PolyMatrix([[S, 1], [0, S]])
        self.assertIs(has_rows(matrix=one, other=PolyMatrix([[S * S, 0], [S, 1]])), True)
        self.assertIs(has_rows(one, PolyMatrix([[S, 1], [1, 0]])), False)
        self.assertIs(has_rows(one, PolyMatrix([], 2)), True)
        self.assertIs(has_rows(PolyMatrix([], 2), PolyMatrix([[0, 0]])), True)
        self.assertIs(has_rows(PolyMatrix([], 2), PolyMatrix([[0, 1]])), False)
        self.assertIs(has_rows(PolyMatrix([]), PolyMatrix([[], []])), True)

    def test_against_forms(self):
        chance = random.Random(81)
        for matrix in matrices():
            other = random_polys(chance, 2, matrix.height, 1, 2) * matrix
            self.assertIs(has_rows(matrix, other), True)
            self.assertIs(has_rows(other, matrix), hermite(other)[0] == hermite(matrix)[0])

    def test_wrong_arguments(self):
        one, wide = PolyMatrix([[S, 1]]), PolyMatrix([[S, 1, 0]])
        self.each_bad(lambda value: has_rows(value, "x"))
        self.each_bad(lambda value: has_rows(one, value))
        self.bad(wide, lambda: has_rows(one, wide))
        self.bad(one, lambda: has_rows(wide, one))
