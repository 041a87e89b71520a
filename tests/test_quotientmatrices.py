"""[2], [13], [19], [76]: matrices of quotients."""

import random
import unittest

from allstreams.errors import AtNought, NotSquare, Singular
from allstreams.matrices import Matrix
from allstreams.polymatrices import PolyMatrix
from allstreams.polys import Poly
from allstreams.quotientmatrices import QuotientMatrix
from allstreams.quotients import Quotient
from allstreams.ratios import Ratio
from tests.helpers import Case, STRANGE, minor_worth, random_poly

Z = Poly([0, 1])
NOUGHT, ONE = Quotient(0, 1), Quotient(1, 1)
LOOP = Quotient(1, 1 - Z)


def random_quotients(chance, height, width, zeros=3):
    def entry():
        if chance.randrange(10) < zeros:
            return 0
        bottom = chance.choice([Poly([1]), 1 - Z, 1 + Z, 2 - Z, 1 - Z * Z, 1 + Z + Z * Z])
        return Quotient(random_poly(chance, chance.randint(0, 2), 3, (1, 2)), bottom)
    return QuotientMatrix([[entry() for _ in range(width)] for _ in range(height)], width)


class Making(Case):
    def test_rows_height_width(self):
        matrix = QuotientMatrix([[LOOP, Z], (Ratio(1, 2), 0)])
        self.assertEqual(matrix.rows, ((LOOP, Quotient(Z, 1)), (Quotient(1, 2), NOUGHT)))
        self.assertEqual((matrix.height, matrix.width), (2, 2))
        told = [(m.height, m.width, m.rows) for m in (QuotientMatrix([]), QuotientMatrix([], 2), QuotientMatrix(width=0, rows=[[]]))]
        self.assertEqual(told, [(0, 0, ()), (0, 2, ()), (1, 0, ((),))])
        rows = [[LOOP]]
        copied = QuotientMatrix(rows)
        rows[0].append(5)
        self.assertEqual(copied, QuotientMatrix([[LOOP]]))

    def test_wrong_arguments(self):
        self.each_bad(QuotientMatrix, [value for value in STRANGE if not isinstance(value, (list, tuple))])
        for value in [*STRANGE, Matrix([]), PolyMatrix([])]:
            row = [LOOP, value]
            self.bad(row, lambda: QuotientMatrix([[1, 2], row, "x"], "w"))
        rows = [[LOOP], [Z, 1]]
        self.bad(rows, lambda: QuotientMatrix(rows, "w"))
        self.each_bad(lambda value: QuotientMatrix([[1]], value), but=[None])
        for width in (0, 2):
            self.bad(width, lambda: QuotientMatrix([[1]], width))

    def test_equality(self):
        self.assertTrue(QuotientMatrix([[LOOP, 1]]) == QuotientMatrix([[Quotient(2, 2 - 2 * Z), Ratio(1)]]))
        for other in (QuotientMatrix([[LOOP, 2]]), QuotientMatrix([[LOOP], [1]]), QuotientMatrix([[LOOP]]), LOOP, None):
            self.assertFalse(QuotientMatrix([[LOOP, 1]]) == other)
            self.assertTrue(QuotientMatrix([[LOOP, 1]]) != other)
        self.assertFalse(QuotientMatrix([[1]]) == PolyMatrix([[1]]))
        self.assertFalse(QuotientMatrix([]) == QuotientMatrix([], 1))


class Signs(Case):
    def test_sums_and_products(self):
        chance = random.Random(1)
        for _ in range(30):
            height, width, other_width = [chance.randint(0, 3) for _ in range(3)]
            one, two = [random_quotients(chance, height, width) for _ in range(2)]
            right = random_quotients(chance, width, other_width)
            self.assertEqual(one + two, QuotientMatrix([[a + b for a, b in zip(*rows)] for rows in zip(one.rows, two.rows)], width))
            self.assertEqual(one - two, QuotientMatrix([[a - b for a, b in zip(*rows)] for rows in zip(one.rows, two.rows)], width))
            sums = [[sum([a * row[k] for a, row in zip(line, right.rows)], NOUGHT) for k in range(other_width)] for line in one.rows]
            self.assertEqual(one * right, QuotientMatrix(sums, other_width))
            for factor in (LOOP, 2 - Z, Ratio(1, 2), -3):
                scaled = QuotientMatrix([[factor * entry for entry in row] for row in one.rows], width)
                self.assertEqual(one.times(factor), scaled)

    def test_other_operands(self):
        matrix = QuotientMatrix([[LOOP, 2], [3, 4]])
        for value in [*STRANGE, 1, Ratio(1), Z, LOOP, QuotientMatrix([[1, 2]])]:
            with self.subTest(value=value):
                self.bad(value, lambda: matrix + value)
                self.bad(value, lambda: matrix - value)
                self.bad(value, lambda: matrix * value)
        column = QuotientMatrix([[1], [2]])
        self.bad(column, lambda: matrix - column)
        self.assertEqual((matrix * column).rows[1], (Quotient(11, 1),))
        self.each_bad(matrix.times)
        self.assertEqual(matrix.times(quotient=0), QuotientMatrix([[0, 0], [0, 0]]))

    def test_turned_and_first(self):
        matrix = QuotientMatrix([[LOOP, Z, 0]])
        self.assertEqual(matrix.turned(), QuotientMatrix([[LOOP], [Z], [0]]))
        self.assertEqual(matrix.first(many=3), [Matrix([[1, 0, 0]]), Matrix([[1, 1, 0]]), Matrix([[1, 0, 0]])])
        self.assertEqual([matrix.first(0), QuotientMatrix([], 2).first(1)], [[], [Matrix([], 2)]])
        self.assertIs(type(matrix.first(1)), list)
        self.each_bad(matrix.first)
        self.bad(-1, lambda: matrix.first(-1))
        self.bad(-1, lambda: QuotientMatrix([], 2).first(-1))
        self.bad("x", lambda: QuotientMatrix([], 2).times("x"))


class Bottoms(Case):
    def test_common_bottoms(self):
        chance = random.Random(2)
        for _ in range(40):
            matrix = random_quotients(chance, chance.randint(0, 3), chance.randint(0, 3))
            bottom, tops = matrix.common_bottom(), matrix.tops()
            self.assertEqual(bottom.part(0), Ratio(1))
            self.assertIs(type(tops), PolyMatrix)
            self.assertEqual((tops.height, tops.width), (matrix.height, matrix.width))
            bottoms = [entry.bottom for row in matrix.rows for entry in row]
            for row, line in zip(matrix.rows, tops.rows):
                for entry, top in zip(row, line):
                    self.assertEqual(bottom.divided(entry.bottom)[1], Poly([]))
                    self.assertEqual(entry * bottom, Quotient(top, 1))
            # No factor of it can be left out.
            for factor in (1 - Z, 1 + Z, 2 - Z, 1 + Z + Z * Z):
                quotient, rest = bottom.divided(factor)
                if rest == Poly([]):
                    self.assertTrue([one for one in bottoms if quotient.divided(one)[1] != Poly([])])

    def test_examples_of_them(self):
        matrix = QuotientMatrix([[LOOP, Quotient(Z, 1 - Z * Z)], [Quotient(1, (1 - Z) * (1 - Z)), 2]])
        bottom = (1 - Z) * (1 - Z) * (1 + Z)
        self.assertEqual(matrix.common_bottom(), bottom)
        self.assertEqual(matrix.tops(), PolyMatrix([[1 - Z * Z, Z * (1 - Z)], [1 + Z, 2 * bottom]]))
        self.assertEqual([QuotientMatrix([]).common_bottom(), QuotientMatrix([[Z, 0]]).common_bottom()], [Poly([1])] * 2)


class Squares(Case):
    def matrices(self):
        chance = random.Random(3)
        for _ in range(40):
            size = chance.randint(0, 3)
            if chance.random() < 0.3 and size:
                yield random_quotients(chance, size, size - 1) * random_quotients(chance, size - 1, size)
            else:
                yield random_quotients(chance, size, size).times(chance.choice([1, 1, Z]))

    def test_determinants_inverses_ranks(self):
        told = {Singular: 0, AtNought: 0, None: 0}
        for matrix in self.matrices():
            worth = minor_worth([list(row) for row in matrix.rows]) * ONE
            self.assertEqual(matrix.determinant(), worth)
            self.assertIs(type(matrix.determinant()), Quotient)
            self.assertIs(matrix.rank() == matrix.height, worth != NOUGHT)
            error = Singular if worth == NOUGHT else AtNought if worth.low() > 0 else None
            told[error] += 1
            if error:
                self.raises(error, matrix.inverse)
            else:
                size = matrix.height
                one = QuotientMatrix([[int(row == column) for column in range(size)] for row in range(size)], size)
                self.assertEqual([matrix * matrix.inverse(), matrix.inverse() * matrix], [one, one])
        self.assertGreater(min(told.values()), 1)

    def test_ranks(self):
        self.assertEqual(QuotientMatrix([[LOOP, Z * LOOP], [1, Z]]).rank(), 1)
        self.assertEqual(QuotientMatrix([[LOOP, Z * LOOP, 0], [1, Z, LOOP]]).rank(), 2)
        told = [m.rank() for m in (QuotientMatrix([]), QuotientMatrix([[0]]), QuotientMatrix([], 3), QuotientMatrix([[], []]))]
        self.assertEqual(told, [0, 0, 0, 0])

    def test_edges(self):
        empty = QuotientMatrix([])
        self.assertEqual([empty.determinant(), empty.inverse()], [ONE, empty])
        self.raises(Singular, QuotientMatrix([[0]]).inverse)
        self.raises(AtNought, QuotientMatrix([[Z]]).inverse)
        self.assertEqual(QuotientMatrix([[2 - Z]]).inverse(), QuotientMatrix([[Quotient(1, 2 - Z)]]))
        for matrix in (QuotientMatrix([[1, 2]]), QuotientMatrix([], 1), QuotientMatrix([[]])):
            self.raises(NotSquare, matrix.determinant)
            self.raises(NotSquare, matrix.inverse)


if __name__ == "__main__":
    unittest.main()
