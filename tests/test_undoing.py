"""[39], [98]: machines undone late, lost streams and twins."""

import random
import unittest

from allstreams.errors import NotUndone
from allstreams.least import memory
from allstreams.machines import Machine
from allstreams.matrices import Matrix, identity, zeros
from allstreams.ratios import Ratio
from allstreams.stairs import stairs
from allstreams.undoing import least_late, lost, twins, undo
from tests.helpers import STRANGE, Case
from tests.random_machines import changed, loopless_machine, random_columns, random_machine
from tests.test_spaces import AWKWARD
from tests.test_stairs import HALF, LATE, silent


def ratios(columns):
    return [[item if isinstance(item, Ratio) else Ratio(item) for item in column] for column in columns]


def finite(columns):
    """The types of a finite stream: a list of lists of Ratios."""
    return type(columns) is list and all(type(turn) is list for turn in columns) and all(
        type(item) is Ratio for turn in columns for item in turn)


class Undone(Case):
    def check_undo(self, machine, late, chance, turns=6):
        undoing = undo(machine, late)
        self.assertIs(type(undoing), Machine)
        self.assertEqual([undoing.ins, undoing.outs], [machine.outs, machine.ins])
        columns = random_columns(chance, machine, late + turns)
        told = undoing.run(machine.run(columns))
        self.assertEqual(told[:late], [[Ratio(0)] * machine.b.width] * late)
        self.assertEqual(told[late:], ratios(columns[:turns]))
        return undoing

    def check_twins(self, machine, late):
        one, other = pair = twins(machine, late)
        self.assertIs(type(pair), tuple)
        self.assertTrue(finite(one) and finite(other))
        self.assertEqual([len(one), len(other)], [late + 1, late + 1])
        self.assertNotEqual(one[0], other[0])
        self.assertEqual(machine.run(one), machine.run(other))

    def check_lost(self, machine):
        stream = lost(machine)
        self.assertTrue(finite(stream))
        self.assertTrue(1 <= len(stream) <= machine.size() + 1)
        self.assertNotEqual(stream[0], [Ratio(0)] * machine.b.width)
        behind = [[0] * machine.b.width] * (2 * machine.size() + 3)
        noughts = [[0] * machine.b.width] * len(stream)
        self.assertEqual(machine.run(stream + behind), machine.run(noughts + behind))

    def test_some(self):
        chance = random.Random(151)
        self.assertEqual([least_late(HALF), least_late(LATE), least_late(silent(2, 1, 1))], [0, 2, None])
        for late in (0, 1, 4):
            self.check_undo(HALF, late, chance)
            self.raises(NotUndone, lambda: undo(silent(2, 1, 1), late))
        for late in (2, 3, 7):
            self.check_undo(LATE, late, chance)
        for late in (0, 1):
            self.raises(NotUndone, lambda: undo(LATE, late))
            self.check_twins(LATE, late)
        self.assertIsNone(twins(LATE, 2))
        self.assertIsNone(lost(LATE))
        self.check_lost(silent(2, 1, 1))

    def test_without_lanes(self):
        for machine in (silent(2, 0, 2), silent(0, 0, 0), silent(1, 0, 0)):
            self.assertEqual([least_late(machine), lost(machine), twins(machine, 3)], [0, None, None])
            self.check_undo(machine, 0, random.Random(152))
            self.check_undo(machine, 2, random.Random(152))
        deaf = silent(2, 2, 0)
        self.assertIsNone(least_late(deaf))
        self.check_lost(deaf)
        self.check_twins(deaf, 2)
        self.raises(NotUndone, lambda: undo(deaf, 5))

    def test_more_outs_than_ins(self):
        # The lanes alone do not tell the ins, both together do.
        machine = Machine(Matrix([[0, 1], [0, 0]]), Matrix([[0, 0], [0, 1]]), Matrix([[1, 0], [0, 1], [1, 1]]),
                          Matrix([[1, 0], [0, 0], [1, 0]]), [1, 2], [1, 1], [2, 1])
        self.assertEqual(least_late(machine), 1)
        self.check_undo(machine, 1, random.Random(153))
        self.check_undo(machine, 3, random.Random(153))

    def test_starts_are_known(self):
        machine = changed(LATE, start=[Ratio(1, 3), -2])
        undoing = self.check_undo(machine, 2, random.Random(154))
        self.assertNotEqual(undoing.run([[0]] * 4), undo(LATE.at_rest(), 2).run([[0]] * 4))

    def test_by_chance(self):
        chance = random.Random(155)
        seen = {"undone": 0, "late": 0, "lost": 0}
        for number in range(150):
            make = loopless_machine if number % 3 == 0 else random_machine
            machine = make(chance, chance.randint(0, 4), chance.randint(0, 3), chance.randint(0, 3),
                           chance.randint(2, 8))
            if chance.random() < 0.4:
                machine = changed(machine, d=zeros(machine.d.height, machine.d.width))
            ranks = [0] + [stairs(machine, late).rank() for late in range(machine.size() + 2)]
            full = [late for late in range(machine.size() + 2)
                    if ranks[late + 1] - ranks[late] == machine.b.width]
            least = full[0] if full else None
            self.assertEqual(least_late(machine), least)
            for late in range(machine.size() + 2):
                if late in full:
                    self.assertIsNone(twins(machine, late))
                    self.check_undo(machine, late, chance)
                else:
                    self.check_twins(machine, late)
                    self.raises(NotUndone, lambda: undo(machine, late))
            if least is None:
                self.check_lost(machine)
                seen["lost"] += 1
            else:
                self.assertIsNone(lost(machine))
                seen["late" if least else "undone"] += 1
        self.assertGreater(min(seen.values()), 5)

    def test_lost_streams_of_all_lengths(self):
        # Two lanes that are added, one of them late: what is taken first comes back with the other sign.
        for many in range(5):
            line = [[1 if column == row + 1 else 0 for column in range(many)] for row in range(many)]
            last = [[0, 1 if row == many - 1 else 0] for row in range(many)]
            first = [[1 if column == 0 else 0 for column in range(many)]]
            machine = Machine(Matrix(line, many), Matrix(last, 2), Matrix(first, many),
                              Matrix([[1, 0 if many else 1]]), [3] * many, [1, 1], [1])
            self.check_lost(machine)
            self.assertEqual(len(lost(machine)), many + 1)

    def test_wrong(self):
        for call in (least_late, lost):
            self.each_bad(call)
        for call in (undo, twins):
            self.each_bad(lambda value: call(value, 1))
            self.each_bad(lambda value: call(LATE, value), [*STRANGE, -1])
            self.bad(None, lambda: call(None, -1))
        self.bad(-1, lambda: undo(silent(2, 1, 1), -1))

    def test_equal_results(self):
        machine = changed(LATE, start=[1, 1])
        self.assertEqual(undo(machine, 3), undo(machine, 3))
        self.assertEqual([lost(silent(2, 2, 1)), twins(LATE, 1)], [lost(silent(2, 2, 1)), twins(LATE, 1)])
        twins(LATE, 1)[0].append(3)
        lost(silent(2, 2, 1))[0].append(3)
        self.check_twins(LATE, 1)
        self.assertEqual(len(lost(silent(2, 2, 1))[0]), 2)

    def test_60_states_60_lanes_and_60_turns(self):
        chance = random.Random(156)
        line = Machine(
            Matrix([[1 if column == row + 1 else 0 for column in range(60)] for row in range(60)]),
            Matrix([[0]] * 59 + [[1]]), Matrix([[1] + [0] * 59]), Matrix([[0]]), [1] * 60, [1], [1])
        self.assertEqual(least_late(line), 60)
        self.check_undo(line, 60, chance)
        self.check_twins(line, 59)
        wide = Machine(zeros(60, 60), identity(60), identity(60), zeros(60, 60), [1] * 60, [60], [30, 30])
        self.assertEqual(least_late(wide), 1)
        self.check_undo(wide, 1, chance, 2)
        self.check_twins(wide, 0)
        dense = random_machine(chance, 60, 2, 1, 0)
        self.assertIsNone(least_late(dense))
        self.check_lost(random_machine(chance, 60, 3, 2, 0))
        self.check_lost(random_machine(chance, 60, 60, 59, 0))
        self.check_twins(dense, 60)
        full = random_machine(chance, 60, 2, 2, 0)
        self.check_undo(full, least_late(full), chance, 2)

    def test_a_machine_of_eight_states(self):
        third, half = Ratio(1, 3), Ratio(1, 2)
        a = Matrix([
            [0, 0, 0, 0, 0, 0, 0, 0], [1, 0, 0, 0, 0, 0, 0, 0], [0, 1, 0, 0, 0, 0, 0, 0],
            [0, 0, Ratio(3, 2), half, 0, 0, 0, 0], [0, 0, 1, 0, -third, 0, 0, 0], [0, 0, 0, 0, 0, 0, 0, 0],
            [0, 0, 0, 0, 0, 1, 0, 0], [0, 0, 0, 0, 1, 0, 0, 0],
        ])
        b = Matrix([[1, 0, 0], [0, 0, 0], [0, 0, 0], [0, 1, 0], [0, half, 0], [0, 0, 1], [0, 0, 0], [0, 1, 0]])
        c = Matrix([[0, 0, 1, 0, 0, 0, -half, 0], [0, 0, 0, 1, 0, 0, 1, 0], [0, 0, 0, 0, 0, 0, 1, 0]])
        d = Matrix([[0, 0, 0], [0, 1, 0], [0, 0, 0]])
        start = [1234567890123456789012345678901234567890, Ratio(3, 5), -2, 7, Ratio(1, 6), 0, 5, Ratio(-9, 4)]
        machine = Machine(a, b, c, d, start, [3], [1, 1, 1])
        self.assertEqual([least_late(machine), lost(machine), twins(machine, 3)], [3, None, None])
        chance = random.Random(158)
        for late in (0, 1, 2):
            self.check_twins(machine, late)
            self.raises(NotUndone, lambda: undo(machine, late))
        # The least machine that does it.
        sizes = [self.check_undo(machine, late, chance).size() for late in (3, 4)]
        self.assertEqual(sizes, [memory(undo(machine, late)) for late in (3, 4)])
        self.assertEqual(sizes, [8, 11])


class Lateness(Case):
    """How late ins are told, by integers and a modulus, whatever the modulus does not see."""

    def test_numbers_that_the_moduli_do_not_see(self):
        for great in AWKWARD:
            for one in (Ratio(great), Ratio(1, great), Ratio(great + 1, great - 1)):
                line = Machine(Matrix([[0, one], [0, 0]]), Matrix([[0], [one]]), Matrix([[one, 0]]), zeros(1, 1),
                               [0, 0], [1], [1])
                self.assertEqual(least_late(line), 2)
                pair = Machine(Matrix([[one, 0], [0, 1]]), Matrix([[1, 0], [0, one]]), Matrix([[1, 1], [1, 1 + one]]),
                               zeros(2, 2), [0, 0], [2], [2])
                self.assertEqual(least_late(pair), 1)
                blind = changed(pair, c=Matrix([[1, 1], [one, one]]))
                self.assertIsNone(least_late(blind))

    def test_rows_of_unlike_bottoms(self):
        # Both lanes tell the same but for a factor.
        machine = Machine(zeros(2, 2), Matrix([[0, 1], [0, 2]]), identity(2), Matrix([[Ratio(1, 2), 0], [1, 0]]), [0, 0],
                          [2], [2])
        self.assertIsNone(least_late(machine))
        self.assertEqual(least_late(changed(machine, b=Matrix([[0, 1], [0, 1]]))), 1)

    def test_states_that_are_not_reached(self):
        # States that start elsewhere, but that no in reaches, are no hindrance.
        machine = Machine(Matrix([[0, 1], [0, 0]]), Matrix([[1], [0]]), Matrix([[1, 5]]), zeros(1, 1), [3, 4], [1], [1])
        self.assertEqual([least_late(machine), least_late(machine.at_rest())], [1, 1])


if __name__ == "__main__":
    unittest.main()
