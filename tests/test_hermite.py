"""[2], [16], [17], [77]: hermite forms and rests."""

import random
import unittest

from allstreams.hermite import hermite, hermite_pivots, rest_of
from allstreams.matrices import Matrix
from allstreams.polymatrices import PolyMatrix
from allstreams.polys import Poly
from allstreams.quotients import Quotient
from allstreams.ratios import Ratio
from tests.helpers import Case, STRANGE, random_poly, random_polys, reversible

S = Poly([0, 1])
NOUGHT, ONE = Poly([]), Poly([1])


def first_entry(row):
    return [column for column, entry in enumerate(row) if entry != NOUGHT][0]


def matrices():
    chance = random.Random(1)
    for _ in range(60):
        height, width = chance.randint(0, 4), chance.randint(0, 4)
        if chance.random() < 0.4:
            most = chance.randint(0, 2)
            yield random_polys(chance, height, most, 1, 3) * random_polys(chance, most, width, 1, 3)
        else:
            yield random_polys(chance, height, width, 2, 4, 3)
    # What the document names, and what a modulus could hide.
    yield PolyMatrix([[0, S, 0, 1], [0, S * S, 0, S]])
    yield PolyMatrix([[0, 0], [0, 0]])
    yield PolyMatrix([], 3)
    yield PolyMatrix([[], []])
    yield PolyMatrix([[S * S - S], [S - 1]])
    big = 2 ** 128 + 1
    yield PolyMatrix([[big * S + 1, 1], [big, S], [0, big]])
    yield PolyMatrix([[S + big, 1], [1, S - 2 ** 256 - 1]])


class Forms(Case):
    def test_the_shape(self):
        for matrix in matrices():
            form, multipliers = hermite(matrix)
            self.assertEqual((form.height, form.width), (matrix.rank(), matrix.width))
            pivots = [first_entry(row) for row in form.rows]
            self.assertEqual(pivots, sorted(set(pivots)))
            for place, column in enumerate(pivots):
                pivot = form.rows[place][column]
                self.assertEqual(pivot.parts[-1], Ratio(1))
                for above in form.rows[:place]:
                    self.assertLess(above[column].degree(), pivot.degree())
            self.assertEqual(hermite_pivots(form), tuple(pivots))
            self.assertIs(type(hermite_pivots(form)), tuple)

    def test_the_row_sums(self):
        for matrix in matrices():
            form, multipliers = hermite(matrix)
            self.assertEqual((multipliers.height, multipliers.width), (form.height, matrix.height))
            self.assertEqual(multipliers * matrix, form)
            for row in matrix.rows:
                self.assertEqual(rest_of(row, form), (NOUGHT,) * matrix.width)

    def test_it_is_one(self):
        chance = random.Random(2)
        for matrix in matrices():
            form = hermite(matrix)[0]
            other = reversible(chance, matrix.height) * matrix
            self.assertEqual(hermite(other)[0], form)
            more = PolyMatrix([*other.rows, *(random_polys(chance, 2, matrix.height, 1) * matrix).rows], matrix.width)
            self.assertEqual(hermite(more)[0], form)
            self.assertEqual(hermite(form)[0], form)

    def test_told_ones(self):
        self.assertEqual(hermite(matrix=PolyMatrix([[2 * S - 1]]))[0], PolyMatrix([[S - Ratio(1, 2)]]))
        self.assertEqual(hermite(PolyMatrix([[0, 3 * S, 1]]))[0], PolyMatrix([[0, S, Ratio(1, 3)]]))
        self.assertEqual(hermite(PolyMatrix([[S * S - 1], [S * S - S]]))[0], PolyMatrix([[S - 1]]))
        self.assertEqual(hermite(PolyMatrix([[1, S], [0, 1]]))[0], PolyMatrix([[1, 0], [0, 1]]))
        self.assertEqual(hermite(PolyMatrix([[S, 1], [0, S]]))[0], PolyMatrix([[S, 1], [0, S]]))
        self.assertEqual(hermite(PolyMatrix([[0, 0]])), (PolyMatrix([], 2), PolyMatrix([], 1)))
        self.assertEqual(hermite(PolyMatrix([], 2)), (PolyMatrix([], 2), PolyMatrix([])))
        self.assertEqual(hermite(PolyMatrix([[], []])), (PolyMatrix([]), PolyMatrix([], 2)))
        self.assertEqual(hermite(PolyMatrix([[Ratio(1, 2)]])), (PolyMatrix([[1]]), PolyMatrix([[2]])))

    def test_other_row_sums_give_other_forms(self):
        one, other = PolyMatrix([[S, 0], [0, 1]]), PolyMatrix([[S * S, 0], [0, 1]])
        self.assertNotEqual(hermite(one)[0], hermite(other)[0])

    def test_wrong_arguments(self):
        self.each_bad(hermite)
        matrix = Matrix([[1]])
        self.bad(matrix, lambda: hermite(matrix))

    def test_arguments_are_left_as_they_are(self):
        matrix = PolyMatrix([[S, 1], [1, S]])
        rows, row = matrix.rows, [S, 0]
        self.assertIs(type(hermite(matrix)), tuple)
        rest_of(row, hermite(matrix)[0])
        self.assertIs(matrix.rows, rows)
        self.assertEqual(row, [S, 0])


class Rests(Case):
    def test_rests(self):
        chance = random.Random(3)
        for matrix in matrices():
            form = hermite(matrix)[0]
            row = [random_poly(chance, chance.randint(-1, 4)) for _ in range(form.width)]
            rest = rest_of(row, form)
            self.assertIs(type(rest), tuple)
            for place, column in enumerate(hermite_pivots(form)):
                self.assertLess(rest[column].degree(), form.rows[place][column].degree())
            taken = [one - other for one, other in zip(row, rest)]
            more = PolyMatrix([*form.rows, taken], form.width)
            self.assertEqual(hermite(more)[0], form)
            times = random_polys(chance, 1, form.height, 2)
            moved = [one + other for one, other in zip(row, (times * form).rows[0])]
            self.assertEqual(rest_of(moved, form), rest)

    def test_told_ones(self):
        form = PolyMatrix([[S, 1], [0, S * S]])
        self.assertEqual(rest_of(row=(S + 2, 3), form=form), (Poly([2]), Poly([2])))
        self.assertEqual(rest_of([0, S.power(3) + S], form), (NOUGHT, S))
        self.assertEqual(rest_of([Ratio(1, 2), S], PolyMatrix([], 2)), (Poly([Ratio(1, 2)]), S))
        self.assertEqual(rest_of([], PolyMatrix([])), ())

    def test_what_is_no_own_form(self):
        wrong = [
            PolyMatrix([[0, 0]]), PolyMatrix([[2, 0]]), PolyMatrix([[0, 1], [1, 0]]), PolyMatrix([[1, 1], [0, 1]]),
            PolyMatrix([[S, S * S], [0, S * S]]), PolyMatrix([[1, 0], [1, 1]]), PolyMatrix([[-S]]),
            PolyMatrix([[1, 0], [0, 0]]), PolyMatrix([[S], [1]]), PolyMatrix([[1], [S]]),
        ]
        for form in wrong:
            self.bad(form, lambda: hermite_pivots(form))
            self.bad(form, lambda: rest_of("x", form))
        self.assertEqual(hermite_pivots(form=PolyMatrix([[0, S, S * S, 1], [0, 0, 0, 1]][:1])), (1,))
        self.assertEqual(hermite_pivots(PolyMatrix([], 2)), ())

    def test_wrong_arguments(self):
        form = PolyMatrix([[S, 1]])
        self.each_bad(hermite_pivots)
        self.each_bad(lambda value: rest_of("x", value))
        self.each_bad(lambda value: rest_of(value, form), [value for value in STRANGE if not isinstance(value, (list, tuple))])
        self.each_bad(lambda value: rest_of([S, value, "x"], form))
        loop = Quotient(1, 1 - S)
        self.bad(loop, lambda: rest_of([loop], form))
        for row in ([], [S], [S, 1, 0]):
            self.bad(form, lambda: rest_of(row, form))


if __name__ == "__main__":
    unittest.main()
