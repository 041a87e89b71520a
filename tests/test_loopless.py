"""[40], [99]: machines undone without loops, and breakers."""

import random
import unittest

from allstreams.errors import NotUndone
from allstreams.loopless import loopless_breaker, loopless_late, loopless_undo
from allstreams.lowest import lowest_diagonal
from allstreams.machines import Machine
from allstreams.matrices import Matrix, identity, zeros
from allstreams.polys import Poly
from allstreams.quotientmatrices import QuotientMatrix
from allstreams.quotients import Quotient
from allstreams.ratios import Ratio
from allstreams.realizing import machine_by_columns, machine_by_rows
from allstreams.responses import inverse_poly
from allstreams.stairs import is_loopless
from allstreams.undoing import least_late
from tests.helpers import STRANGE, Case, random_poly, reversible
from tests.random_machines import changed, loopless_machine, matrix_of, random_columns, random_machine
from tests.test_stairs import HALF, LATE, silent
from tests.test_undoing import ratios

Z = Poly([0, 1])


def made(rows):
    """A machine whose matrix these rows of Quotients are, one bottom for all of a row."""
    lines = []
    for row in rows:
        bottom = QuotientMatrix([row]).common_bottom()
        lines.append((list(QuotientMatrix([row]).tops().rows[0]), bottom))
    return machine_by_rows(lines, [1] * len(rows[0]), [1] * len(rows))


def lowest_late(machine):
    """What the lowest diagonal tells of the least lateness."""
    diagonal = lowest_diagonal(matrix_of(machine))
    if len(diagonal) < machine.b.width or any(entry.top.degree() > entry.low() for entry in diagonal):
        return None
    return max([entry.low() for entry in diagonal], default=0)


class Loopless(Case):
    def check_undo(self, machine, late, chance):
        undoing = loopless_undo(machine, late)
        self.assertEqual([undoing.ins, undoing.outs, undoing], [machine.outs, machine.ins, undoing.at_rest()])
        self.assertTrue(is_loopless(undoing))
        columns = random_columns(chance, machine, late + 6)
        told = undoing.run(machine.at_rest().run(columns))
        self.assertEqual(told, [[Ratio(0)] * machine.b.width] * late + ratios(columns[:6]))

    def check_breaker(self, machine):
        told = loopless_breaker(machine)
        self.assertEqual([type(told), len(told)], [tuple, 2])
        poly, lanes = told
        self.assertEqual([type(poly), type(lanes), {type(lane) for lane in lanes}], [Poly, tuple, {Poly}])
        self.assertTrue(poly.degree() >= 1 and poly.low() == 0 and len(lanes) == machine.b.width)
        self.assertTrue(any(lane.divided(poly)[1].parts for lane in lanes))
        for row in matrix_of(machine).rows:
            total = Quotient(0, 1)
            for entry, lane in zip(row, lanes):
                total = total + entry * lane
            self.assertFalse(total.top.divided(poly)[1].parts)

    def test_of_the_document(self):
        half = Quotient(1, 1 - Z * Ratio(1, 2))
        self.assertEqual(loopless_late(made([[half, 0], [0, 1]])), 0)
        self.assertIsNone(loopless_late(made([[half.inverse(), 0], [0, 1]])))
        self.check_breaker(made([[half.inverse(), 0], [0, 1]]))
        self.assertIsNone(loopless_late(made([[Quotient(Poly([1, 1]), 1)]])))

    def test_powers_and_zeros(self):
        chance = random.Random(161)
        self.assertEqual([loopless_late(LATE), loopless_breaker(LATE)], [2, None])
        for late in (2, 5):
            self.check_undo(LATE, late, chance)
        for late in (0, 1):
            self.raises(NotUndone, lambda: loopless_undo(LATE, late))
        self.check_breaker(silent(2, 2, 1))
        self.check_breaker(made([[Quotient(Z, 1), Quotient(Z * Z, 1)]]))
        for late in (0, 4):
            self.raises(NotUndone, lambda: loopless_undo(silent(2, 2, 1), late))
        self.assertEqual(loopless_late(made([[Quotient(Z, 1 - Z), 0], [0, Quotient(Z * Z * 3, 1)]])), 2)

    def test_loops_that_are_undone(self):
        loop = made([[Quotient(1, 1 - 2 * Z)]])
        self.assertEqual(loopless_late(loop), 0)
        self.check_undo(loop, 0, random.Random(162))
        self.check_undo(loop, 3, random.Random(162))
        # What is divided out between top and bottom is no breaker.
        self.assertIsNone(loopless_late(made([[Quotient(1 - 2 * Z, 1 - Z)]])))

    def test_more_outs_than_ins(self):
        # Each out alone breaks, both together do not.
        machine = made([[Quotient(1 - Z, 1)], [Quotient(1 + Z, 1)]])
        self.assertEqual(loopless_late(machine), 0)
        self.check_undo(machine, 0, random.Random(163))

    def test_without_lanes(self):
        for machine in (silent(2, 0, 2), silent(0, 0, 0)):
            self.assertEqual([loopless_late(machine), loopless_breaker(machine)], [0, None])
            self.check_undo(machine, 2, random.Random(164))
        self.check_breaker(silent(2, 2, 0))

    def test_starts_have_no_influence(self):
        for start in ([0, 0], [1, 2]):
            machine = changed(LATE, start=start)
            self.assertEqual([loopless_late(machine), loopless_undo(machine, 2)], [2, loopless_undo(LATE, 2)])
        hidden = Machine(Matrix([[3]]), Matrix([[0]]), Matrix([[1]]), Matrix([[2]]), [1], [1], [1])
        self.assertEqual(loopless_late(hidden), 0)

    def test_by_chance(self):
        chance = random.Random(165)
        found = {"undone": 0, "broken": 0}
        for number in range(150):
            make = loopless_machine if number % 2 else random_machine
            machine = make(chance, chance.randint(0, 3), chance.randint(0, 3), chance.randint(0, 3),
                           chance.randint(2, 9))
            late = loopless_late(machine)
            if late is None:
                found["broken"] += 1
                self.check_breaker(machine)
                self.raises(NotUndone, lambda: loopless_undo(machine, 60))
            else:
                found["undone"] += 1
                self.assertEqual(late, least_late(machine))
                self.assertIsNone(loopless_breaker(machine))
                self.check_undo(machine, late, chance)
                self.check_undo(machine, late + 2, chance)
                if late:
                    self.raises(NotUndone, lambda: loopless_undo(machine, late - 1))
        self.assertGreater(min(found.values()), 20)

    def test_diagonals_between_reversible_matrices(self):
        chance = random.Random(166)
        for _ in range(20):
            size = chance.randint(1, 3)
            powers = [chance.randint(0, 3) for _ in range(size)]
            bottoms = [Poly([1, *random_poly(chance, 1, 2).parts]) for _ in range(size)]
            entries = [[Quotient(Poly([1]).raised(powers[row]), bottoms[row]) if row == column else Quotient(0, 1)
                        for column in range(size)] for row in range(size)]
            matrix = QuotientMatrix(reversible(chance, size).rows) * QuotientMatrix(entries)
            matrix = matrix * QuotientMatrix(reversible(chance, size).rows)
            machine = made(matrix.rows)
            late = loopless_late(machine)
            self.assertEqual(late, least_late(machine))
            if sum(bottom.degree() for bottom in bottoms) == 0:
                self.assertIsNotNone(late)
            self.check_undo(machine, late, chance) if late is not None else self.check_breaker(machine)

    def test_zeros_where_poles_are(self):
        half = 1 - Z * Ratio(1, 2)
        whole, over = Quotient(half, 1), Quotient(1, half)
        nothing = Quotient(0, 1)
        for rows in ([[whole, nothing], [1, over]], [[whole, 1], [nothing, over]], [[whole * whole, 1], [nothing, over]],
                     [[whole, 1], [nothing, over * over]], [[whole, over], [nothing, over], [nothing, nothing]],
                     [[whole, nothing], [over, over], [over * over, nothing]]):
            machine = made(rows)
            expected = lowest_late(machine)
            self.assertEqual(loopless_late(machine), expected)
            if expected is None:
                self.check_breaker(machine)
            else:
                self.check_undo(machine, expected, random.Random(174))

    def test_diagonals_with_zeros_and_poles(self):
        chance = random.Random(175)
        found = set()
        pool = [Z, 1 - Z, 1 - Z * Ratio(1, 2), 1 + Z * Z]
        for _ in range(60):
            height, width = chance.randint(1, 4), chance.randint(1, 3)
            entries = []
            for _ in range(min(height, width)):
                entry = Quotient(0 if chance.random() < 0.05 else 1, 1)
                for _ in range(chance.choice([0, 1, 1, 2])):
                    entry = entry * chance.choice(pool)
                for _ in range(chance.choice([0, 0, 1, 2])):
                    entry = entry * Quotient(1, chance.choice(pool[1:]))
                entries.append(entry)
            rows = [[entries[row] if row == column else 0 for column in range(width)] for row in range(height)]
            matrix = QuotientMatrix(reversible(chance, height).rows) * QuotientMatrix(rows)
            machine = made((matrix * QuotientMatrix(reversible(chance, width).rows)).rows)
            late = loopless_late(machine)
            self.assertEqual(late, lowest_late(machine))
            found.add((late, height > width))
            if late is None:
                self.check_breaker(machine)
            else:
                self.assertIsNone(loopless_breaker(machine))
                self.check_undo(machine, late, chance)
                self.check_undo(machine, late + 1, chance)
        self.assertGreater(len(found), 5)

    def test_wrong(self):
        self.each_bad(loopless_late)
        self.each_bad(loopless_breaker)
        self.each_bad(lambda value: loopless_undo(value, 1))
        self.each_bad(lambda value: loopless_undo(LATE, value), [*STRANGE, -1])
        self.bad(None, lambda: loopless_undo(None, -1))
        self.bad(-1, lambda: loopless_undo(silent(1, 1, 1), -1))

    def test_equal_results(self):
        self.assertEqual(loopless_undo(HALF_POLY, 1), loopless_undo(HALF_POLY, 1))
        self.assertEqual(loopless_breaker(BROKEN), loopless_breaker(BROKEN))

    def test_60_states_and_60_lanes(self):
        wide = Machine(zeros(60, 60), identity(60), identity(60), zeros(60, 60), [1] * 60, [60], [60])
        self.assertEqual(loopless_late(wide), 1)
        self.check_undo(wide, 1, random.Random(167))
        line = Machine(
            Matrix([[1 if column == row + 1 else 0 for column in range(60)] for row in range(60)]),
            Matrix([[0]] * 59 + [[1]]), Matrix([[1] + [0] * 59]), Matrix([[0]]), [1] * 60, [1], [1])
        self.assertEqual(loopless_late(line), 60)
        self.check_undo(line, 60, random.Random(168))
        self.check_breaker(loopless_machine(random.Random(169), 60, 1, 1, 5))
        full = random_machine(random.Random(170), 60, 60, 60, 0)
        self.assertIsNone(loopless_late(full))
        self.check_undo(changed(full, d=zeros(60, 60)), 1, random.Random(171))
        more = random_machine(random.Random(172), 60, 2, 3, 0)
        self.assertEqual([loopless_late(more), loopless_breaker(more)], [least_late(more), None])


HALF_POLY = made([[Quotient(1, 1 - Z)]])
BROKEN = made([[Quotient(1 - Z, 1)]])


class Responses(Case):
    def test_parts_are_answers(self):
        chance = random.Random(171)
        for _ in range(60):
            machine = random_machine(chance, chance.randint(0, 4), chance.randint(0, 3), chance.randint(0, 3))
            matrix = matrix_of(machine)
            many = 2 * machine.size() + 3
            self.assertEqual(matrix.first(many), [machine.answer(turn) for turn in range(many)])
            self.assertEqual([matrix.height, matrix.width], [machine.c.height, machine.b.width])

    def test_inverse_poly(self):
        self.assertEqual(inverse_poly(Matrix([[1, 2], [Ratio(1, 2), 3]])), Poly([1, -4, 2]))
        self.assertEqual(inverse_poly(zeros(0, 0)), Poly([1]))
        chance = random.Random(172)
        for _ in range(30):
            matrix = random_machine(chance, chance.randint(0, 4), 0, 0).a
            at = Ratio(chance.randint(-5, 5), 3)
            self.assertEqual(inverse_poly(matrix).worth_at(at), (identity(matrix.height) - matrix * at).determinant())

    def test_machines_made_of_matrices(self):
        chance = random.Random(173)
        for _ in range(40):
            height, width = chance.randint(1, 3), chance.randint(1, 3)
            bottoms = [Poly([1, *random_poly(chance, chance.randint(-1, 2), 3).parts]) for _ in range(height)]
            tops = [[random_poly(chance, chance.randint(-1, 4), 3) for _ in range(width)] for _ in range(height)]
            matrix = QuotientMatrix([[Quotient(top, bottom) for top in row] for row, bottom in zip(tops, bottoms)])
            lines = list(zip(tops, bottoms))
            one = machine_by_rows(lines, [width], [1] * height)
            other = machine_by_columns(lines, [1] * height, [width])
            self.assertEqual([one, other], [one.at_rest(), other.at_rest()])
            self.assertEqual(one.size(), sum(max(bottom.degree(), *[top.degree() for top in row])
                                             for row, bottom in lines))
            for turn in range(8):
                part = Matrix([[entry.part(turn) for entry in row] for row in matrix.rows])
                self.assertEqual([one.answer(turn), other.answer(turn)], [part, part.turned()])


if __name__ == "__main__":
    unittest.main()
