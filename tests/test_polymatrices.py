"""[2], [13], [15], [75]: matrices of polys."""

import random
import unittest
from itertools import combinations

from allstreams.errors import NotSquare, Singular
from allstreams.matrices import Matrix
from allstreams.polymatrices import PolyMatrix, poly_blocks, poly_matrix
from allstreams.polys import Poly
from allstreams.quotients import Quotient
from allstreams.ratios import Ratio
from tests.helpers import Case, STRANGE, minor_worth, random_polys, random_poly, random_ratio, reversible

S = Poly([0, 1])
NOUGHT, ONE = Poly([]), Poly([1])


def identity_of(size):
    return PolyMatrix([[1 if row == column else 0 for column in range(size)] for row in range(size)], size)


def plain_rank(matrix):
    """The greatest size of a square part whose determinant is not 0."""
    for size in range(min(matrix.height, matrix.width), 0, -1):
        for rows in combinations(matrix.rows, size):
            for columns in combinations(range(matrix.width), size):
                if minor_worth([[row[column] for column in columns] for row in rows]) != NOUGHT:
                    return size
    return 0


class Making(Case):
    def test_rows_height_width(self):
        matrix = PolyMatrix([[S, 1], (Ratio(1, 2), 0)])
        self.assertEqual(matrix.rows, ((S, ONE), (Poly([Ratio(1, 2)]), NOUGHT)))
        self.assertEqual((matrix.height, matrix.width), (2, 2))
        told = [(m.height, m.width, m.rows) for m in (PolyMatrix([]), PolyMatrix([], 2), PolyMatrix(width=0, rows=[[]]))]
        self.assertEqual(told, [(0, 0, ()), (0, 2, ()), (1, 0, ((),))])
        rows = [[S]]
        copied = PolyMatrix(rows)
        rows[0][0] = 5
        self.assertEqual(copied, PolyMatrix([[S]]))

    def test_wrong_arguments(self):
        self.each_bad(PolyMatrix, [value for value in STRANGE if not isinstance(value, (list, tuple))])
        for value in [*STRANGE, Matrix([]), Quotient(1, 1)]:
            row = [S, value]
            self.bad(row, lambda: PolyMatrix([[1, 2], row, "x"], "w"))
        rows = [[S], [S, 1]]
        self.bad(rows, lambda: PolyMatrix(rows, "w"))
        self.each_bad(lambda value: PolyMatrix([[S]], value), but=[None])
        for width in (0, 2):
            self.bad(width, lambda: PolyMatrix([[S]], width))

    def test_equality(self):
        self.assertTrue(PolyMatrix([[S, 1]]) == PolyMatrix([[S, Ratio(1)]]))
        for other in (PolyMatrix([[S, 2]]), PolyMatrix([[S], [1]]), PolyMatrix([[S]]), Matrix([[1]]), S, None):
            self.assertFalse(PolyMatrix([[S, 1]]) == other)
            self.assertTrue(PolyMatrix([[S, 1]]) != other)
        self.assertFalse(PolyMatrix([[1]]) == Matrix([[1]]))
        self.assertFalse(PolyMatrix([]) == PolyMatrix([], 1))


class Signs(Case):
    def test_sums_and_products(self):
        chance = random.Random(1)
        for _ in range(50):
            height, width, other_width = [chance.randint(0, 3) for _ in range(3)]
            one, two = [random_polys(chance, height, width, 3) for _ in range(2)]
            right = random_polys(chance, width, other_width, 4, 10 ** 20)
            self.assertEqual(one + two, PolyMatrix([[a + b for a, b in zip(*rows)] for rows in zip(one.rows, two.rows)], width))
            self.assertEqual(one - two, PolyMatrix([[a - b for a, b in zip(*rows)] for rows in zip(one.rows, two.rows)], width))
            sums = [[sum([a * row[k] for a, row in zip(line, right.rows)], NOUGHT) for k in range(other_width)] for line in one.rows]
            self.assertEqual(one * right, PolyMatrix(sums, other_width))
            for factor in (random_poly(chance, 2), random_ratio(chance), chance.randint(-3, 3)):
                scaled = PolyMatrix([[factor * entry for entry in row] for row in one.rows], width)
                self.assertEqual(one.times(factor), scaled)

    def test_other_operands(self):
        matrix = PolyMatrix([[S, 2], [3, 4]])
        for value in [*STRANGE, 1, Ratio(1), S, PolyMatrix([[1, 2]])]:
            with self.subTest(value=value):
                self.bad(value, lambda: matrix + value)
                self.bad(value, lambda: matrix - value)
                self.bad(value, lambda: matrix * value)
        column = PolyMatrix([[1], [2]])
        self.bad(column, lambda: matrix + column)
        self.assertEqual(matrix * column, PolyMatrix([[S + 4], [11]]))
        self.each_bad(matrix.times)
        loop = Quotient(1, 1 - S)
        self.bad(loop, lambda: matrix.times(poly=loop))

    def test_turned_degree_part_worth(self):
        matrix = PolyMatrix([[S * S, 1, 0], [2 * S - 1, Ratio(1, 2), S]])
        self.assertEqual(matrix.turned(), PolyMatrix([[S * S, 2 * S - 1], [1, Ratio(1, 2)], [0, S]]))
        self.assertEqual(PolyMatrix([], 2).turned(), PolyMatrix([[], []]))
        told = [m.degree() for m in (matrix, PolyMatrix([[7]]), PolyMatrix([[0]]), PolyMatrix([], 2))]
        self.assertEqual(told, [2, 0, -1, -1])
        self.assertEqual(matrix.part(1), Matrix([[0, 0, 0], [2, 0, 1]]))
        self.assertEqual(matrix.part(power=9), Matrix([[0, 0, 0], [0, 0, 0]]))
        self.assertEqual(PolyMatrix([], 2).part(0), Matrix([], 2))
        self.assertEqual(matrix.worth_at(ratio=Ratio(1, 2)), Matrix([[Ratio(1, 4), 1, 0], [0, Ratio(1, 2), Ratio(1, 2)]]))
        self.assertEqual(matrix.worth_at(2).rows[0][0], Ratio(4))
        self.each_bad(matrix.part)
        self.bad(-1, lambda: matrix.part(-1))
        self.bad(-1, lambda: PolyMatrix([], 2).part(-1))
        self.bad("x", lambda: PolyMatrix([], 2).worth_at("x"))
        self.bad("x", lambda: PolyMatrix([], 2).times("x"))
        self.each_bad(matrix.worth_at)
        self.bad(S, lambda: matrix.worth_at(S))


class Ranks(Case):
    def test_ranks(self):
        chance = random.Random(2)
        for _ in range(60):
            height, width = chance.randint(0, 4), chance.randint(0, 4)
            matrix = random_polys(chance, height, width, 2, 2, 3)
            if chance.random() < 0.6:
                most = chance.randint(0, 2)
                matrix = random_polys(chance, height, most, 1, 2) * random_polys(chance, most, width, 1, 2)
            self.assertEqual(matrix.rank(), plain_rank(matrix))

    def test_ranks_that_a_place_hides(self):
        both = PolyMatrix([[S, 1], [8, 1]])
        self.assertEqual([both.rank(), PolyMatrix([[S - 8]]).rank(), PolyMatrix([[0, S - 8]]).rank()], [2, 1, 1])
        many = PolyMatrix([[(S - 8) * (S - 16) * (S - 2 ** 20), 1], [0, 0]])
        self.assertEqual(many.rank(), 1)
        self.assertEqual(PolyMatrix([[S - 2 ** place for place in range(40)]] * 2).rank(), 1)
        self.assertEqual([PolyMatrix([], 3).rank(), PolyMatrix([[], []]).rank(), PolyMatrix([[0]]).rank()], [0, 0, 0])


class Squares(Case):
    def matrices(self):
        chance = random.Random(3)
        for _ in range(60):
            size = chance.randint(0, 4)
            if chance.random() < 0.3 and size:
                most = chance.randint(max(0, size - 2), size - 1)
                yield random_polys(chance, size, most, 1, 3) * random_polys(chance, most, size, 1, 3)
            else:
                yield random_polys(chance, size, size, 2, 5, 3)
        for size in range(5):
            yield reversible(chance, size)

    def test_determinants_and_adjugates(self):
        for matrix in self.matrices():
            rows, size = [list(row) for row in matrix.rows], matrix.height
            worth = minor_worth(rows) if size else ONE
            self.assertEqual(matrix.determinant(), worth)
            self.assertIs(type(matrix.determinant()), Poly)
            adjugate = matrix.adjugate()
            for i in range(size):
                for j in range(size):
                    left = [row[:i] + row[i + 1:] for row in rows[:j] + rows[j + 1:]]
                    self.assertEqual(adjugate.rows[i][j], minor_worth(left) * (-1) ** (i + j) * ONE)
            self.assertEqual(adjugate * matrix, identity_of(size).times(worth))
            self.assertEqual(matrix * adjugate, identity_of(size).times(worth))

    def test_inverses(self):
        many = 0
        for matrix in self.matrices():
            if matrix.determinant().degree() == 0:
                many += 1
                self.assertEqual(matrix * matrix.inverse(), identity_of(matrix.height))
            else:
                self.raises(Singular, matrix.inverse)
        self.assertGreater(many, 5)

    def test_edges(self):
        empty = PolyMatrix([])
        self.assertEqual([empty.determinant(), empty.adjugate(), empty.inverse()], [ONE, empty, empty])
        self.assertEqual([PolyMatrix([[one]]).adjugate() for one in (S, 0)], [PolyMatrix([[1]])] * 2)
        self.assertEqual(PolyMatrix([[0, S], [0, 0]]).adjugate(), PolyMatrix([[0, -S], [0, 0]]))
        self.assertEqual(PolyMatrix([[0] * 3] * 3).adjugate(), PolyMatrix([[0] * 3] * 3))
        self.raises(Singular, PolyMatrix([[S]]).inverse)
        self.raises(Singular, PolyMatrix([[0]]).inverse)
        for matrix in (PolyMatrix([[1, 2]]), PolyMatrix([], 1), PolyMatrix([[]])):
            self.raises(NotSquare, matrix.determinant)
            self.raises(NotSquare, matrix.adjugate)
            self.raises(NotSquare, matrix.inverse)

    def test_nothing_changes(self):
        for matrix in self.matrices():
            rows = matrix.rows
            for call in (matrix.determinant, matrix.adjugate, matrix.rank, matrix.turned, lambda: matrix * matrix):
                call()
            self.assertIs(matrix.rows, rows)


class Parts(Case):
    def test_poly_matrix(self):
        one, other = Matrix([[1, 2]]), Matrix([[0, Ratio(1, 2)]])
        self.assertEqual(poly_matrix([one, other]), PolyMatrix([[1, 2 + Ratio(1, 2) * S]]))
        self.assertEqual(poly_matrix(parts=(one,)), PolyMatrix([[1, 2]]))
        self.assertEqual([poly_matrix([Matrix([], 3)]), poly_matrix([Matrix([[]])])], [PolyMatrix([], 3), PolyMatrix([[]])])
        self.each_bad(poly_matrix, [value for value in STRANGE if value not in ([1], (1,))])
        self.each_bad(lambda value: poly_matrix([one, value, "x"]))
        matrix = PolyMatrix([[1, 2]])
        self.bad(matrix, lambda: poly_matrix([matrix]))
        for parts in ([], (), [one, Matrix([[1]])], [one, Matrix([], 2)], [one, one, Matrix([[1, 2], [3, 4]])]):
            self.bad(parts, lambda: poly_matrix(parts))

    def test_poly_blocks(self):
        one, row, column = PolyMatrix([[S]]), PolyMatrix([[2, 3]]), PolyMatrix([[4], [S]])
        corner = PolyMatrix([[0, 0], [0, 1]])
        self.assertEqual(poly_blocks(((one, row), [column, corner])), PolyMatrix([[S, 2, 3], [4, 0, 0], [S, 0, 1]]))
        self.assertEqual(poly_blocks(grid=[[PolyMatrix([], 2), PolyMatrix([], 1)]]), PolyMatrix([], 3))
        self.each_bad(poly_blocks, [value for value in STRANGE if value not in ([1], (1,))])
        for line in ([one, column], [one, "x"], [], (1,), [Matrix([[1]])]):
            self.bad(line, lambda: poly_blocks([[one, one], line, "x"]))
        for grid in ([[one], [row]], [[one, one], [one]], ([one, row], [row, one]), []):
            self.bad(grid, lambda: poly_blocks(grid))


if __name__ == "__main__":
    unittest.main()
