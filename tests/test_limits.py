"""[123]: the sizes with which numbers and matrices are asked for, and objects that calls have told passed on."""

import random
import unittest

from allstreams.discs import root_counts
from allstreams.hermite import hermite, hermite_pivots, rest_of
from allstreams.matrices import Matrix, blocks, identity
from allstreams.polymatrices import PolyMatrix, poly_blocks
from allstreams.polys import Poly, common_paper
from allstreams.quotientmatrices import QuotientMatrix
from allstreams.quotients import Quotient
from allstreams.ratios import Ratio
from tests.helpers import random_poly, random_polys, reversible

S = Poly([0, 1])
ONE = Poly([1])
LONG = 10 ** 299


def long_ratio(chance):
    return Ratio(chance.randint(-9 * LONG, 9 * LONG), chance.randint(LONG, 9 * LONG))


class Limits(unittest.TestCase):
    def setUp(self):
        self.chance = random.Random(123)

    def test_long_ratios(self):
        one, other = long_ratio(self.chance), long_ratio(self.chance)
        self.assertEqual((one + other) * (one - other), one * one - other * other)
        self.assertEqual(one.power(20) * one.power(-20), Ratio(1))
        self.assertGreater(len(str(one)), 590)

    def test_polys_of_24_parts(self):
        one, other = [Poly([long_ratio(self.chance) for _ in range(24)]) for _ in range(2)]
        self.assertEqual(one.common(other), ONE)
        quotient = Quotient(one, other)
        self.assertEqual(quotient * quotient.inverse(), Quotient(1, 1))
        small, more = [random_poly(self.chance, 23) for _ in range(2)]
        factor, first, second = common_paper(small, more)
        self.assertEqual((factor, first * small + second * more), (ONE, ONE))
        loop = Quotient(small, more * S + 1)
        self.assertEqual(loop.part(400), loop.first(401)[400])
        self.assertEqual(sum(root_counts(small)), small.degree())

    def test_matrices_of_60_rows_and_columns(self):
        chance = self.chance
        matrix = Matrix([[chance.randint(-9, 9) for _ in range(60)] for _ in range(60)])
        self.assertEqual(matrix * matrix.inverse(), identity(60))
        self.assertEqual(matrix.turned().determinant(), matrix.determinant())
        self.assertEqual(matrix.solved(matrix * matrix), matrix)
        low = Matrix([row[:20] for row in matrix.rows]) * Matrix(matrix.rows[:20])
        self.assertEqual((low.rank(), low.kernel().width, len(low.pivots())), (20, 40, 20))
        self.assertEqual(low * low.kernel(), Matrix([[0] * 40] * 60))
        self.assertEqual(matrix.power(60) * matrix, matrix.power(61))
        halves = Matrix([[Ratio(entry.top, 2 + place % 7) for place, entry in enumerate(row)] for row in matrix.rows])
        self.assertEqual(halves.inverse() * halves, identity(60))

    def test_poly_matrices_of_48_rows_and_columns(self):
        one = random_polys(self.chance, 48, 48, 23, 9)
        self.assertEqual(one.rank(), 48)
        self.assertEqual((one * one).worth_at(2), one.worth_at(2) * one.worth_at(2))
        ring = PolyMatrix([
            [S if row == column else -1 if column == (row + 1) % 48 else 0 for column in range(48)] for row in range(48)
        ])
        self.assertEqual(ring.determinant(), S.power(48) - 1)
        self.assertEqual(ring.adjugate() * ring, PolyMatrix(identity(48).rows).times(S.power(48) - 1))
        form, multipliers = hermite(ring)
        self.assertEqual(multipliers * ring, form)
        self.assertEqual(form.rows[47][47], S.power(48) - 1)

    def test_hermite_forms_of_48_rows_or_columns(self):
        mixed = reversible(self.chance, 48, 150)
        self.assertEqual(hermite(mixed), (PolyMatrix(identity(48).rows), mixed.inverse()))
        few = PolyMatrix([
            [self.chance.choice([1, -1, S, -S, Ratio(1, 2)]) if self.chance.random() < 0.06 else 0 for _ in range(48)]
            for _ in range(40)
        ])
        form, multipliers = hermite(few)
        self.assertEqual(multipliers * few, form)
        self.assertEqual(form.height, few.rank())
        self.assertEqual(len(hermite_pivots(form)), form.height)
        for row in few.rows:
            self.assertEqual(rest_of(row, form), (Poly([]),) * 48)
        tall = random_polys(self.chance, 48, 3, 2)
        self.assertEqual(hermite(tall)[0], PolyMatrix([[1, 0, 0], [0, 1, 0], [0, 0, 1]]))

    def test_hermite_forms_of_full_rows(self):
        for size, degree in ((5, 3), (8, 2), (3, 8)):
            matrix = random_polys(self.chance, size, size, degree)
            form, multipliers = hermite(matrix)
            self.assertEqual(multipliers * matrix, form)
            self.assertEqual(multipliers.determinant().degree(), 0)
            self.assertEqual(form.determinant(), matrix.determinant().monic())

    def test_great_degrees(self):
        late = PolyMatrix([[S.power(9999), -1, 0], [0, S.power(5000), -1]])
        self.assertEqual(hermite(late)[0], late)
        self.assertEqual(PolyMatrix([[S.power(9999), 1], [1, S]]).determinant(), S.power(10000) - 1)
        self.assertEqual((S.power(9999) - 1).divided(S - 1), (Poly([1] * 9999), Poly([])))
        self.assertEqual((S.power(999) - 1).common(S.power(666) - 1), S.power(333) - 1)

    def test_quotient_matrices(self):
        chance = self.chance
        rows = [[Quotient(random_poly(chance, 1, 3), 1 - Ratio(1, 2) * S) for _ in range(20)] for _ in range(20)]
        matrix = QuotientMatrix(rows)
        self.assertEqual((matrix * matrix).first(4)[0], matrix.first(1)[0] * matrix.first(1)[0])
        self.assertEqual(matrix.common_bottom(), 1 - Ratio(1, 2) * S)
        small = QuotientMatrix([row[:5] for row in rows[:5]])
        self.assertEqual((small * small.inverse()).first(3)[0], identity(5))
        self.assertEqual(matrix.rank(), 20)

    def test_blocks_of_many(self):
        grid = [[identity(6)] * 10] * 10
        self.assertEqual(blocks(grid).rank(), 6)
        polys = PolyMatrix([[S]])
        self.assertEqual(poly_blocks([[polys] * 48] * 48).rank(), 1)


if __name__ == "__main__":
    unittest.main()
