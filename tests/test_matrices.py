"""[2], [13], [14], [74]: matrices of ratios."""

import random
import unittest

from allstreams.errors import BadValue, NotSquare, Singular
from allstreams.matrices import Matrix, blocks, identity, part_of, zeros
from allstreams.polymatrices import PolyMatrix
from allstreams.ratios import Ratio
from tests.helpers import Case, STRANGE, minor_worth, random_ratio

NOUGHT, ONE = Ratio(0), Ratio(1)


def random_matrix(chance, height, width, rank=None, size=5):
    if rank is not None:
        return random_matrix(chance, height, rank) * random_matrix(chance, rank, width)
    return Matrix([[random_ratio(chance, size) for _ in range(width)] for _ in range(height)], width)


def plain_echelon(matrix):
    """The rows of the echelon form, and the pivots, by plain elimination."""
    rows, pivots = [list(row) for row in matrix.rows], []
    for column in range(matrix.width):
        place = len(pivots)
        found = [at for at in range(place, len(rows)) if rows[at][column] != NOUGHT]
        if found:
            rows[place], rows[found[0]] = rows[found[0]], rows[place]
            inverse = rows[place][column].inverse()
            rows[place] = [entry * inverse for entry in rows[place]]
            for at, row in enumerate(rows):
                if at != place:
                    rows[at] = [entry - row[column] * other for entry, other in zip(row, rows[place])]
            pivots.append(column)
    return [tuple(row) for row in rows[:len(pivots)]], tuple(pivots)


class Making(Case):
    def test_rows_height_width(self):
        matrix = Matrix([[1, Ratio(1, 2)], (0, -3)])
        self.assertEqual(matrix.rows, ((ONE, Ratio(1, 2)), (NOUGHT, Ratio(-3))))
        self.assertEqual((matrix.height, matrix.width), (2, 2))
        self.assertIs(type(matrix.rows[1][0]), Ratio)
        self.assertEqual(Matrix(width=1, rows=((5,),)), Matrix([[5]]))

    def test_without_entries(self):
        told = [(m.height, m.width, m.rows) for m in (Matrix([]), Matrix([], 3), Matrix([[], []]), Matrix([[]], 0), Matrix((), 0))]
        self.assertEqual(told, [(0, 0, ()), (0, 3, ()), (2, 0, ((), ())), (1, 0, ((),)), (0, 0, ())])

    def test_lists_are_copied(self):
        row = [1, 2]
        rows = [row, [3, 4]]
        matrix = Matrix(rows)
        row[0] = 9
        rows.append([5, 6])
        self.assertEqual(matrix, Matrix([[1, 2], [3, 4]]))
        self.assertEqual(rows, [[9, 2], [3, 4], [5, 6]])

    def test_wrong_rows(self):
        self.each_bad(Matrix, [value for value in STRANGE if not isinstance(value, (list, tuple))])
        self.bad(3, lambda: Matrix(3, "w"))
        self.each_bad(lambda value: Matrix([[1], value]), but=[value for value in STRANGE if value in ([1], (1,), [])])
        for value in STRANGE:
            row = [1, value]
            self.bad(row, lambda: Matrix([[1, 2], row, "x"], "w"))
        row = [PolyMatrix([])]
        self.bad(row, lambda: Matrix([row]))

    def test_rows_that_do_not_agree(self):
        for rows in ([[1], [1, 2]], [[], [1]], ([1, 2], [3, 4], [5])):
            self.bad(rows, lambda: Matrix(rows))
            self.bad(rows, lambda: Matrix(rows, "w"))

    def test_wrong_widths(self):
        self.each_bad(lambda value: Matrix([], value), but=[None])
        self.each_bad(lambda value: Matrix([[1]], value), but=[None])
        self.bad(-1, lambda: Matrix([], -1))
        for width in (0, 1, 3):
            self.bad(width, lambda: Matrix([[1, 2]], width))
        self.bad(1, lambda: Matrix([[]], 1))
        one = Ratio(1)
        self.bad(one, lambda: Matrix([[1]], one))

    def test_equality(self):
        self.assertTrue(Matrix([[1, 2]]) == Matrix([[1, Ratio(2)]]))
        for other in (Matrix([[1, 3]]), Matrix([[1], [2]]), Matrix([[1, 2], [0, 0]]), Matrix([[1]]), PolyMatrix([[1, 2]])):
            self.assertFalse(Matrix([[1, 2]]) == other)
            self.assertTrue(Matrix([[1, 2]]) != other)
        self.assertFalse(Matrix([]) == Matrix([], 1))
        self.assertFalse(Matrix([[]]) == Matrix([]))
        for value in [*STRANGE, 1, ONE, ((1, 2),)]:
            self.assertFalse(Matrix([[1, 2]]) == value)

    def test_written_out(self):
        told = [str(m) for m in (Matrix([[1, Ratio(-1, 2)], [0, 3]]), Matrix([], 3), Matrix([[], []]), Matrix([[7]]), Matrix([]))]
        self.assertEqual(told, ["[1 -1/2; 0 3]", "[0 x 3]", "[2 x 0]", "[7]", "[0 x 0]"])


class Signs(Case):
    def test_sums_and_products(self):
        chance = random.Random(1)
        for _ in range(60):
            height, width, other_width = [chance.randint(0, 4) for _ in range(3)]
            one, two = random_matrix(chance, height, width), random_matrix(chance, height, width)
            right = random_matrix(chance, width, other_width)
            self.assertEqual(one + two, Matrix([[a + b for a, b in zip(*rows)] for rows in zip(one.rows, two.rows)], width))
            self.assertEqual(one - two, Matrix([[a - b for a, b in zip(*rows)] for rows in zip(one.rows, two.rows)], width))
            sums = [[sum([a * row[k] for a, row in zip(line, right.rows)], NOUGHT) for k in range(other_width)] for line in one.rows]
            self.assertEqual(one * right, Matrix(sums, other_width))
            self.assertEqual(-one, zeros(height, width) - one)
            for number in (random_ratio(chance), chance.randint(-3, 3)):
                scaled = Matrix([[number * entry for entry in row] for row in one.rows], width)
                self.assertEqual([one * number, number * one], [scaled, scaled])

    def test_an_empty_sum_is_nought(self):
        self.assertEqual(Matrix([[], []]) * Matrix([], 3), zeros(2, 3))

    def test_other_operands(self):
        matrix = Matrix([[1, 2], [3, 4]])
        for value in STRANGE:
            with self.subTest(value=value):
                self.bad(value, lambda: matrix + value)
                self.bad(value, lambda: matrix - value)
                self.bad(value, lambda: matrix * value)
                self.bad(value, lambda: value * matrix)
        for value in (1, ONE):
            self.bad(value, lambda: matrix + value)
            self.bad(value, lambda: matrix - value)
        for other in (Matrix([[1, 2]]), Matrix([[1], [2]]), Matrix([])):
            self.bad(other, lambda: matrix + other)
            self.bad(other, lambda: matrix - other)
        for other in (Matrix([[1, 2]]), Matrix([]), Matrix([], 2)):
            self.bad(other, lambda: matrix * other)

    def test_powers(self):
        matrix = Matrix([[1, 1], [1, 0]])
        self.assertEqual(matrix.power(0), identity(2))
        self.assertEqual(matrix.power(exponent=10), Matrix([[89, 55], [55, 34]]))
        self.assertEqual(Matrix([]).power(5), Matrix([]))
        self.assertEqual(zeros(2, 2).power(0), identity(2))
        wide = Matrix([[1, 2]])
        self.raises(NotSquare, lambda: wide.power(0))
        self.each_bad(wide.power)
        self.bad(-1, lambda: wide.power(-1))

    def test_turned(self):
        self.assertEqual(Matrix([[1, 2, 3], [4, 5, 6]]).turned(), Matrix([[1, 4], [2, 5], [3, 6]]))
        self.assertEqual([Matrix([], 2).turned(), Matrix([[], []]).turned()], [Matrix([[], []]), Matrix([], 2)])


class Pivots(Case):
    def matrices(self):
        chance = random.Random(2)
        for _ in range(120):
            height, width = chance.randint(0, 5), chance.randint(0, 5)
            yield random_matrix(chance, height, width, chance.choice([None, 0, 1, 2]), chance.choice([1, 5]))
        yield Matrix([[0, 0, 2, 4, 0], [0, 0, 1, 2, 0]])
        yield Matrix([[0, 1], [0, 0]])
        yield zeros(3, 2)

    def test_echelon_pivots_rank(self):
        for matrix in self.matrices():
            rows, pivots = plain_echelon(matrix)
            self.assertEqual((matrix.pivots(), matrix.rank()), (pivots, len(pivots)))
            self.assertEqual(matrix.echelon(), Matrix(rows, matrix.width))
            self.assertIs(type(matrix.pivots()), tuple)

    def test_kernels(self):
        for matrix in self.matrices():
            kernel, pivots = matrix.kernel(), matrix.pivots()
            free = [column for column in range(matrix.width) if column not in pivots]
            self.assertEqual((kernel.height, kernel.width), (matrix.width, len(free)))
            self.assertEqual(matrix * kernel, zeros(matrix.height, len(free)))
            self.assertEqual(part_of(kernel, free, list(range(len(free)))), identity(len(free)))

    def test_solutions(self):
        chance = random.Random(3)
        for matrix in self.matrices():
            pivots = matrix.pivots()
            right = matrix * random_matrix(chance, matrix.width, chance.randint(0, 3))
            found = matrix.solved(right)
            self.assertEqual(matrix * found, right)
            self.assertEqual((found.height, found.width), (matrix.width, right.width))
            for column in range(matrix.width):
                if column not in pivots:
                    self.assertEqual(found.rows[column], (NOUGHT,) * right.width)
            other = random_matrix(chance, matrix.height, 1)
            solvable = blocks([[matrix, other]]).rank() == matrix.rank()
            self.assertIs(matrix.solved(other=other) is not None, solvable)

    def test_solutions_without_entries(self):
        self.assertEqual(Matrix([], 3).solved(Matrix([], 2)), zeros(3, 2))
        self.assertEqual(Matrix([[], []]).solved(zeros(2, 2)), Matrix([], 2))
        self.assertIsNone(Matrix([[], []]).solved(Matrix([[0], [1]])))
        self.assertEqual(Matrix([[1]]).solved(Matrix([[]])), Matrix([[]]))

    def test_wrong_right_sides(self):
        matrix = Matrix([[1, 2]])
        self.each_bad(matrix.solved)
        for other in (Matrix([]), Matrix([[1], [2]]), PolyMatrix([[1]]), 1):
            self.bad(other, lambda: matrix.solved(other))


class Squares(Case):
    def test_determinants_and_inverses(self):
        chance = random.Random(4)
        singular = 0
        for _ in range(80):
            size = chance.randint(0, 5)
            matrix = random_matrix(chance, size, size, chance.choice([None, None, max(0, size - 1)]), 3)
            worth = minor_worth([list(row) for row in matrix.rows])
            self.assertEqual(matrix.determinant(), worth if size else ONE)
            self.assertIs(type(matrix.determinant()), Ratio)
            if matrix.determinant() == NOUGHT:
                singular += 1
                self.raises(Singular, matrix.inverse)
            else:
                self.assertEqual(matrix.inverse() * matrix, identity(size))
                self.assertEqual(matrix * matrix.inverse(), identity(size))
        self.assertGreater(singular, 10)

    def test_edges(self):
        self.assertEqual([Matrix([]).determinant(), Matrix([]).inverse()], [ONE, Matrix([])])
        self.assertEqual(Matrix([[0, 1], [1, 0]]).determinant(), Ratio(-1))
        self.assertEqual(Matrix([[0, 0, 1], [1, 0, 0], [0, 1, 0]]).determinant(), ONE)
        self.raises(Singular, Matrix([[0]]).inverse)
        for matrix in (Matrix([[1, 2]]), Matrix([], 1), Matrix([[]])):
            self.raises(NotSquare, matrix.determinant)
            self.raises(NotSquare, matrix.inverse)


class Parts(Case):
    def test_identity_and_zeros(self):
        self.assertEqual(identity(size=2), Matrix([[1, 0], [0, 1]]))
        self.assertEqual(identity(0), Matrix([]))
        self.assertEqual(zeros(width=2, height=1), Matrix([[0, 0]]))
        self.assertEqual([zeros(0, 2), zeros(2, 0)], [Matrix([], 2), Matrix([[], []])])
        self.each_bad(identity)
        self.bad(-1, lambda: identity(-1))
        self.each_bad(lambda value: zeros(value, "y"))
        self.each_bad(lambda value: zeros(0, value))
        self.bad(-1, lambda: zeros(1, -1))

    def test_part_of(self):
        matrix = Matrix([[1, 2, 3], [4, 5, 6]])
        self.assertEqual(part_of(matrix, [1, 0, 1], (2, 2)), Matrix([[6, 6], [3, 3], [6, 6]]))
        self.assertEqual(part_of(columns=[0], rows=[], matrix=matrix), Matrix([], 1))
        self.assertEqual(part_of(matrix, [0, 1], []), Matrix([[], []]))
        lists = [value for value in STRANGE if not isinstance(value, (list, tuple))]
        self.each_bad(lambda value: part_of(value, "r", "c"))
        self.each_bad(lambda value: part_of(matrix, value, "c"), lists)
        self.each_bad(lambda value: part_of(matrix, [0, value, 9], "c"))
        self.each_bad(lambda value: part_of(matrix, [0], value), lists)
        self.each_bad(lambda value: part_of(matrix, [0], [1, value, -1]))
        for place in (-1, 2, 3):
            self.bad(place, lambda: part_of(matrix, [1, place, "x"], [5]))
        for place in (-1, 3):
            self.bad(place, lambda: part_of(matrix, [1], [2, place]))
        self.bad(0, lambda: part_of(Matrix([]), [0], []))

    def test_blocks(self):
        one, row, column = Matrix([[1]]), Matrix([[2, 3]]), Matrix([[4], [5]])
        self.assertEqual(
            blocks([[one, row], (column, zeros(2, 2))]), Matrix([[1, 2, 3], [4, 0, 0], [5, 0, 0]])
        )
        self.assertEqual(blocks(grid=(([one]),)), one)
        self.assertEqual(blocks([[Matrix([], 2), Matrix([], 1)]]), Matrix([], 3))
        self.assertEqual(blocks([[Matrix([], 2)], [row]]), row)
        self.assertEqual(blocks([[Matrix([[]]), one]]), one)

    def test_wrong_blocks(self):
        one, row, column = Matrix([[1]]), Matrix([[2, 3]]), Matrix([[4], [5]])
        self.each_bad(blocks, [value for value in STRANGE if value not in ([1], (1,))])
        self.each_bad(lambda value: blocks([[one], value]))
        for line in ([one, column], [one, "x"], [], (1,), [PolyMatrix([[1]])], [one, [[1]]]):
            self.bad(line, lambda: blocks([[one, one], line, "x"]))
        for grid in ([[one], [row]], [[one, one], [one]], [[one], [one, one]], ([one, row], [row, one]), []):
            self.bad(grid, lambda: blocks(grid))

    def test_arguments_are_left_as_they_are(self):
        one, rows, columns = Matrix([[1, 2], [3, 4]]), [1, 0], [0]
        line = [one, one]
        grid = [line]
        blocks(grid), part_of(one, rows, columns)
        self.assertEqual([grid, line, rows, columns], [[line], [one, one], [1, 0], [0]])
        for call in (one.echelon, one.kernel, one.inverse, one.turned, lambda: one * one, lambda: one.solved(one)):
            call()
        self.assertEqual(one, Matrix([[1, 2], [3, 4]]))

    def test_the_first_bad_value_is_told(self):
        with self.assertRaises(BadValue) as caught:
            blocks([[Matrix([])], "a", "b"])
        self.assertEqual(caught.exception.value, "a")


if __name__ == "__main__":
    unittest.main()
