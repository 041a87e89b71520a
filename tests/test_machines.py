"""[33], [92]: machines."""

import random
import unittest

from allstreams.machines import Machine
from allstreams.matrices import Matrix, identity, zeros
from allstreams.ratios import Ratio
from tests.helpers import STRANGE, Case, fraction
from tests.random_machines import changed, fractions_in, random_columns, random_machine, told_by

A, B = Matrix([[0, 1], [2, 0]]), Matrix([[1, 0, 1], [0, 1, 1]])
C, D = Matrix([[1, 0], [0, Ratio(1, 2)], [1, 1], [0, 0]]), Matrix([[0, 0, 0], [1, 0, 0], [0, 3, 0], [0, 0, 1]])
TOLD = [A, B, C, D, [1, Ratio(-1, 2)], [1, 2], [3, 1]]
ONE = Machine(*TOLD)


def joined(rows):
    """The Fractions of the lists of Ratios."""
    return [[fraction(item) for item in row] for row in rows]


class Parts(Case):
    def test_attributes(self):
        self.assertEqual([ONE.a, ONE.b, ONE.c, ONE.d], [A, B, C, D])
        self.assertEqual([ONE.start, ONE.ins, ONE.outs], [(Ratio(1), Ratio(-1, 2)), (1, 2), (3, 1)])
        self.assertEqual([type(ONE.start), type(ONE.ins), type(ONE.outs)], [tuple] * 3)
        self.assertEqual([type(item) for item in ONE.start], [Ratio, Ratio])
        self.assertEqual(ONE.size(), 2)
        named = Machine(a=A, b=B, c=C, d=D, start=(1, Ratio(-1, 2)), ins=(1, 2), outs=(3, 1))
        self.assertEqual(named, ONE)

    def test_equality(self):
        self.assertEqual(Machine(*TOLD), ONE)
        for name, other in [("a", identity(2)), ("b", zeros(2, 3)), ("c", zeros(4, 2)), ("d", zeros(4, 3)),
                            ("start", [1, 0]), ("ins", [2, 1]), ("outs", [1, 3])]:
            self.assertNotEqual(changed(ONE, **{name: other}), ONE)
        for other in [*STRANGE, A, object()]:
            self.assertFalse(ONE == other)
            self.assertTrue(ONE != other)

    def test_lists_are_copied(self):
        start, ins, outs = [1, 2], [1, 2], [3, 1]
        machine = Machine(A, B, C, D, start, ins, outs)
        for told in (start, ins, outs):
            told.append(7)
        self.assertEqual([machine.start, machine.ins, machine.outs], [(Ratio(1), Ratio(2)), (1, 2), (3, 1)])

    def test_without_states_ins_or_outs(self):
        machine = Machine(zeros(0, 0), zeros(0, 1), zeros(1, 0), Matrix([[3]]), [], [1], [1])
        self.assertEqual([machine.size(), joined(machine.run([[1], [Ratio(1, 3)]]))], [0, [[3], [1]]])
        self.assertEqual([machine.answer(0), machine.answer(1), machine.answer(5)], [Matrix([[3]]), *[zeros(1, 1)] * 2])
        silent = Machine(Matrix([[2]]), zeros(1, 0), Matrix([[1]]), zeros(1, 0), [1], [], [1])
        self.assertEqual(joined(silent.run([[], (), []])), [[1], [2], [4]])
        self.assertEqual(silent.answer(3), zeros(1, 0))
        deaf = Machine(Matrix([[2]]), Matrix([[1]]), zeros(0, 1), zeros(0, 1), [1], [1], [])
        self.assertEqual([deaf.run([[1], [2]]), deaf.answer(2)], [[[], []], zeros(0, 1)])
        nothing = Machine(zeros(0, 0), zeros(0, 0), zeros(0, 0), zeros(0, 0), [], [], [])
        self.assertEqual([nothing.run([[]]), nothing.over(3), nothing.at_rest()], [[[]], nothing, nothing])

    def test_wrong(self):
        for number in range(4):
            def made(value):
                return Machine(*TOLD[:number], value, *TOLD[number + 1:])
            self.each_bad(made)
        for number, value in [(0, zeros(2, 3)), (0, zeros(3, 2)), (1, zeros(3, 3)), (1, zeros(0, 3)), (2, zeros(4, 3)),
                              (3, zeros(3, 3)), (3, zeros(4, 2)), (4, [1]), (4, [1, 2, 3]), (4, ()), (5, [1]),
                              (5, [1, 1]), (5, [2, 2]), (5, []), (6, [4, 1]), (6, ()), (6, [1, 1, 1])]:
            self.bad(value, lambda: Machine(*TOLD[:number], value, *TOLD[number + 1:]))
        for number in (4, 5, 6):
            for value in (None, 1, "x", {}, 1.0, True, Ratio(1), object()):
                self.bad(value, lambda: Machine(*TOLD[:number], value, *TOLD[number + 1:]))
        for item in (None, True, "x", 1.5, [], object()):
            self.bad(item, lambda: Machine(A, B, C, D, [1, item, False], [1, 2], [3, 1]))
            self.bad(item, lambda: Machine(A, B, C, D, [1, 2], [item, None], [3, 1]))
            self.bad(item, lambda: Machine(A, B, C, D, [1, 2], [1, 2], [3, item, None]))
        for item in (0, -1, Ratio(1)):
            self.bad(item, lambda: Machine(A, B, C, D, [1, 2], [3, item], [3, 1]))
            self.bad(item, lambda: Machine(A, B, C, D, [1, 2], [1, 2], [4, item]))

    def test_the_first_wrong_one(self):
        square = zeros(3, 3)
        self.bad(None, lambda: Machine(None, 1, 2, 3, 4, 5, 6))
        for number in range(7):
            bad = [zeros(2, 3), square, square, square, [1], [7], [7]]
            self.bad(bad[number], lambda: Machine(*TOLD[:number], *bad[number:]))
        # b agrees with a; so c, which comes later, does not agree with a.
        self.bad(TOLD[1], lambda: Machine(square, *TOLD[1:]))
        self.bad(TOLD[2], lambda: Machine(square, zeros(3, 3), *TOLD[2:]))


class Deeds(Case):
    def test_answers(self):
        self.assertEqual([ONE.answer(0), ONE.answer(1), ONE.answer(2), ONE.answer(5)],
                         [D, C * B, C * A * B, C * A * A * A * A * B])
        self.each_bad(ONE.answer, [*STRANGE, -1])

    def test_an_answer_is_what_a_1_adds(self):
        chance = random.Random(81)
        for _ in range(20):
            machine = random_machine(chance, 3, 2, 2)
            plain = told_by(machine, [[0, 0]] * 5)
            for lane in range(2):
                given = told_by(machine, [[1 if place == lane else 0 for place in range(2)]] + [[0, 0]] * 4)
                for turn in range(5):
                    column = [row[lane] for row in fractions_in(machine.answer(turn).rows)]
                    self.assertEqual(column, [one - two for one, two in zip(given[turn], plain[turn])])

    def test_run(self):
        chance = random.Random(82)
        for _ in range(40):
            machine = random_machine(chance, chance.randint(0, 4), chance.randint(0, 3), chance.randint(0, 3))
            columns = random_columns(chance, machine, chance.randint(0, 5))
            told = machine.run(columns)
            self.assertEqual(joined(told), told_by(machine, columns))
            self.assertEqual({type(row) for row in told} | {type(told)}, {list})
        self.assertEqual(ONE.run([]), [])
        self.assertEqual(ONE.run(([1, 2, 3],)), ONE.run([(1, 2, 3)]))

    def test_run_wrong(self):
        self.each_bad(ONE.run, [None, 1, "x", {}, True, 1.0, Ratio(1), object()])
        good = [1, 2, 3]
        for column in (None, 1, [1, 2], [1, 2, 3, 4], [], [1, 2, True], [1, 2, "x"], {}, "abc", [1, 2, None], 1.5):
            self.bad(column, lambda: ONE.run([good, column, None]))
        self.assertEqual(good, [1, 2, 3])

    def test_at_rest(self):
        rest = ONE.at_rest()
        self.assertEqual(rest, changed(ONE, start=[0, 0]))
        self.assertEqual(ONE.start, (Ratio(1), Ratio(-1, 2)))
        self.assertEqual(rest.at_rest(), rest)

    def test_over(self):
        self.assertEqual(ONE.over(1), ONE)
        double = ONE.over(2)
        self.assertEqual([double.ins, double.outs, double.start, double.a], [(2, 4), (6, 2), ONE.start, A * A])
        self.each_bad(ONE.over, [*STRANGE, 0, -1])

    def test_over_several_turns_does_the_same(self):
        chance = random.Random(83)
        for _ in range(40):
            machine = random_machine(chance, chance.randint(0, 3), chance.randint(0, 4), chance.randint(0, 4))
            turns = chance.randint(1, 4)
            whole = machine.over(turns)
            columns = random_columns(chance, machine, 3 * turns)
            told = told_by(machine, columns)
            given = [by_lanes(columns[turn:turn + turns], machine.ins) for turn in range(0, 3 * turns, turns)]
            expected = [by_lanes(told[turn:turn + turns], machine.outs) for turn in range(0, 3 * turns, turns)]
            self.assertEqual(joined(whole.run(given)), expected)
            self.assertEqual(whole.ins, tuple(turns * many for many in machine.ins))
            self.assertEqual(whole.over(2), machine.over(2 * turns))

    def test_nothing_is_changed(self):
        machine = random_machine(random.Random(84), 3, 2, 2)
        columns = random_columns(random.Random(85), machine, 3)
        before = [list(column) for column in columns]
        first = machine.run(columns)
        first[0].append(1)
        self.assertEqual(columns, before)
        self.assertEqual(joined(machine.run(columns)), told_by(machine, columns))
        self.assertEqual(machine.over(2), machine.over(2))


def by_lanes(columns, lanes):
    """Several turns as one: the lanes of each in or out of all turns, those of the first turn first."""
    told, first = [], 0
    for many in lanes:
        for column in columns:
            told += column[first:first + many]
        first += many
    return told


if __name__ == "__main__":
    unittest.main()
