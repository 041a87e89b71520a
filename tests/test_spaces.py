"""The tools by which spaces, fresh rows and solutions are found by moduli and then proved."""

import random
import unittest

from allstreams.fresh import fresh_rows
from allstreams.lifting import solved_by, solved_square
from allstreams.matrices import Matrix, blocks, identity, zeros
from allstreams.patchwork import Patchwork, plain
from allstreams.ratios import Ratio
from allstreams.remainders import modulus_of
from allstreams.shortest import independent_labels, shortest
from allstreams.spaces import column_space, row_space
from tests.helpers import Case
from tests.random_machines import random_columns, random_machine, random_matrix
from tests.test_least import random_change

# Divisors of the first moduli, and the moduli themselves.
AWKWARD = [2 ** 128 + 1, 2 ** 256 + 1, 59649589127497217, 5704689200685129054721, 1238926361552897]


def krylov(rows, matrix):
    """The rows, the rows times the matrix, and so on, as often as they can matter."""
    lines = [rows]
    for _ in range(matrix.width):
        lines.append(lines[-1] * matrix)
    return blocks([[line] for line in lines])


class Spaces(Case):
    def test_row_spaces(self):
        chance = random.Random(231)
        heights = set()
        for _ in range(150):
            size = chance.randint(0, 5)
            matrix = random_matrix(chance, size, size, chance.randint(4, 9))
            rows = random_matrix(chance, chance.randint(0, 2), size, 6)
            found = row_space(rows, matrix)
            self.assertEqual(found, krylov(rows, matrix).echelon())
            self.assertEqual(column_space(rows.turned(), matrix.turned()), found.turned())
            heights.add((size, found.height))
        self.assertGreater(len(heights), 12)

    def test_numbers_that_the_moduli_do_not_see(self):
        for great in AWKWARD:
            for one in (Ratio(great), Ratio(1, great), Ratio(great + 1, great - 1)):
                matrix = Matrix([[0, one, 0], [0, 0, 1], [0, 0, 0]])
                for rows in (Matrix([[1, 0, 0]]), Matrix([[one, 0, 1]]), Matrix([[0, one, 1]]), Matrix([[0, 0, one]])):
                    self.assertEqual(row_space(rows, matrix), krylov(rows, matrix).echelon())

    def test_long_ratios(self):
        chance = random.Random(232)
        for _ in range(5):
            matrix = Matrix([[Ratio(chance.randint(-10 ** 40, 10 ** 40), 7) for _ in range(3)] for _ in range(3)])
            change = random_change(chance, 4)
            whole = blocks([[matrix, zeros(3, 1)], [Matrix([[1, 2, 3]]), Matrix([[5]])]])
            whole = change * whole * change.inverse()
            rows = Matrix([[1, 10 ** 50, 3, 0]]) * change.inverse()
            self.assertEqual(row_space(rows, whole), krylov(rows, whole).echelon())


class Solutions(Case):
    def test_square(self):
        chance = random.Random(233)
        for _ in range(60):
            size = chance.randint(0, 4)
            matrix = random_change(chance, size) if size else zeros(0, 0)
            other = random_matrix(chance, size, chance.randint(0, 3))
            self.assertEqual(solved_square(matrix, other), matrix.inverse() * other)

    def test_long_solutions(self):
        chance = random.Random(234)
        matrix = Matrix([[chance.randint(-10 ** 30, 10 ** 30) for _ in range(6)] for _ in range(6)])
        other = Matrix([[Ratio(chance.randint(-10 ** 300, 10 ** 300), chance.randint(1, 10 ** 90))] for _ in range(6)])
        self.assertEqual(solved_square(matrix, other), matrix.inverse() * other)

    def test_numbers_that_the_moduli_do_not_see(self):
        for great in AWKWARD:
            matrix = Matrix([[great, 1], [0, 3]])
            other = Matrix([[1, great], [Ratio(1, great), 0]])
            self.assertEqual(solved_square(matrix, other), matrix.inverse() * other)
        self.assertIsNone(solved_by(Matrix([[2 ** 128 + 1]]), identity(1), modulus_of(0)))
        self.assertIsNone(solved_by(Matrix([[59649589127497217]]), identity(1), modulus_of(0)))
        self.assertIsNone(solved_by(Matrix([[1, 1], [1, 1]]), identity(2), modulus_of(0)))


class Fresh(Case):
    def test_shortest(self):
        chance = random.Random(236)
        for _ in range(60):
            machine = random_machine(chance, chance.randint(0, 4), chance.randint(0, 2), chance.randint(0, 2),
                                     chance.randint(3, 9))
            short = shortest(machine)
            inputs = random_columns(chance, machine, 6)
            self.assertEqual(short.run(inputs), machine.run(inputs))
            start = Matrix([[item] for item in short.start], 1)
            self.assertEqual(row_space(short.c, short.a), identity(short.size()))
            self.assertEqual(column_space(blocks([[short.b, start]]), short.a), identity(short.size()))

    def test_rows_that_are_fresh(self):
        chance = random.Random(237)
        for _ in range(60):
            machine = random_machine(chance, chance.randint(1, 4), 2, chance.randint(1, 3), 5)
            self.check(machine.c, machine.a)
            short = shortest(machine)
            self.check(short.c, short.a)
        for great in AWKWARD:
            self.check(Matrix([[great, 0], [1, 1]]), identity(2))
            self.check(Matrix([[great, 1], [0, 1]]), identity(2))
            self.check(Matrix([[1, 1], [1, 1 + great]]), Matrix([[0, 1], [great, 0]]))

    def check(self, c, a):
        told = fresh_rows(c, a)
        labels, lines, turn = [], [], 0
        rows = c
        while turn <= a.width:
            for lane, row in enumerate(rows.rows):
                if Matrix([*lines, row]).rank() > len(lines):
                    lines.append(row)
                    labels.append((turn, lane))
            rows = rows * a
            turn += 1
        self.assertEqual(told.labels, labels)
        rows = Matrix([[Ratio(part, bottom) for part in parts] for parts, bottom in told.seen], a.width)
        self.assertEqual(rows, Matrix(lines, a.width))
        for lane in range(c.height):
            first = len([label for label in labels if label[1] == lane])
            row = Matrix([c.rows[lane]]) * a.power(first)
            self.assertEqual(Matrix([told.ends[lane]], len(lines)) * rows, row)
            self.assertFalse([label for label, part in zip(labels, told.ends[lane])
                              if part != Ratio(0) and label > (first, lane)])
        if len(lines) < a.width:
            return
        free = independent_labels(c, a)
        self.assertEqual(Matrix([(Matrix([c.rows[lane]]) * a.power(turn)).rows[0] for turn, lane in free],
                                a.width).rank(), a.width)


class Patches(Case):
    def test_lines(self):
        patchwork = Patchwork()
        out = patchwork.add_line("late", 3, 2, plain("in", 2))
        machine = patchwork.made(out, 2, [2], [1, 1])
        self.assertEqual([machine.size(), machine.ins, machine.outs], [6, (2,), (1, 1)])
        told = machine.run([[1, 2], [3, 4], [5, 6], [7, 8]])
        self.assertEqual(told, [[Ratio(0)] * 2] * 3 + [[Ratio(1), Ratio(2)]])
        bare = Patchwork()
        self.assertEqual(bare.made(bare.add_line("late", 0, 2, plain("in", 2)), 2, [2], [2]).d, identity(2))


if __name__ == "__main__":
    unittest.main()
