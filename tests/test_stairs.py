"""[37], [38], [97]: stairs, gains, and machines without loops."""

import random
import unittest

from allstreams.machines import Machine
from allstreams.matrices import Matrix, blocks, identity, zeros
from allstreams.ratios import Ratio
from allstreams.stairs import gain, is_loopless, stairs
from tests.helpers import STRANGE, Case
from tests.random_machines import changed, loopless_machine, random_columns, random_machine

LATE = Machine(Matrix([[0, 1], [0, 0]]), Matrix([[0], [1]]), Matrix([[1, 0]]), Matrix([[0]]), [5, 7], [1], [1])
HALF = Machine(Matrix([[Ratio(1, 2)]]), Matrix([[1]]), Matrix([[3]]), Matrix([[2]]), [1], [1], [1])


def silent(states, ins, outs):
    """A machine that tells nothing of what it takes."""
    return Machine(zeros(states, states), zeros(states, ins), zeros(outs, states), zeros(outs, ins), [1] * states,
                   [ins] if ins else [], [outs] if outs else [])


class Stairs(Case):
    def test_blocks(self):
        self.assertEqual(stairs(HALF, 0), Matrix([[2]]))
        self.assertEqual(stairs(HALF, 2), Matrix([[2, 0, 0], [3, 2, 0], [Ratio(3, 2), 3, 2]]))
        machine = random_machine(random.Random(141), 3, 2, 3)
        nothing = zeros(3, 2)
        self.assertEqual(stairs(machine, 1), blocks([[machine.d, nothing], [machine.c * machine.b, machine.d]]))
        told = stairs(machine, 4)
        self.assertEqual((told.height, told.width), (15, 10))
        for row in range(5):
            for column in range(5):
                block = [line[2 * column:2 * column + 2] for line in told.rows[3 * row:3 * row + 3]]
                self.assertEqual(Matrix(block), machine.answer(row - column) if row >= column else nothing)

    def test_without_lanes(self):
        self.assertEqual(stairs(silent(1, 0, 2), 2), zeros(6, 0))
        self.assertEqual(stairs(silent(1, 2, 0), 2), zeros(0, 6))
        self.assertEqual(stairs(silent(0, 0, 0), 0), zeros(0, 0))

    def test_they_tell_the_outs(self):
        chance = random.Random(142)
        for _ in range(20):
            machine = random_machine(chance, chance.randint(0, 3), chance.randint(1, 3), chance.randint(1, 3))
            late = chance.randint(0, 3)
            columns = random_columns(chance, machine, late + 1)
            plain = machine.run([[0] * machine.b.width] * (late + 1))
            column = Matrix([[item] for turn in columns for item in turn])
            added = [row[0] for row in (stairs(machine, late) * column).rows]
            expected = [one + two for one, two in zip([item for turn in plain for item in turn], added)]
            self.assertEqual([item for turn in machine.run(columns) for item in turn], expected)

    def test_wrong(self):
        for call in (stairs, gain):
            self.each_bad(lambda value: call(value, 1))
            self.each_bad(lambda value: call(HALF, value), [*STRANGE, -1])
            self.bad(None, lambda: call(None, -1))
        self.each_bad(is_loopless)


class Gains(Case):
    def test_full_at_once_late_and_never(self):
        self.assertEqual([gain(HALF, late) for late in (0, 1, 5)], [1, 1, 1])
        self.assertEqual([gain(LATE, late) for late in range(5)], [0, 0, 1, 1, 1])
        self.assertEqual([gain(silent(2, 1, 1), late) for late in range(4)], [0, 0, 0, 0])
        self.assertEqual(gain(LATE, 10 ** 9), 1)

    def test_without_lanes(self):
        self.assertEqual([gain(silent(1, 0, 2), 3), gain(silent(1, 2, 0), 3), gain(silent(0, 0, 0), 0)], [0, 0, 0])

    def test_ranks(self):
        chance = random.Random(143)
        seen = set()
        for _ in range(120):
            machine = random_machine(chance, chance.randint(0, 4), chance.randint(0, 3), chance.randint(0, 3),
                                     chance.randint(3, 8))
            if chance.random() < 0.4:
                machine = changed(machine, d=zeros(machine.d.height, machine.d.width))
            ranks = [0] + [stairs(machine, late).rank() for late in range(7)]
            gains = [gain(machine, late) for late in range(7)]
            self.assertEqual(gains, [behind - ahead for ahead, behind in zip(ranks, ranks[1:])])
            seen.add(tuple(gains))
        self.assertGreater(len(seen), 6)


class Loopless(Case):
    def test_some(self):
        self.assertIs(is_loopless(LATE), True)
        self.assertIs(is_loopless(HALF), False)
        self.assertTrue(is_loopless(silent(3, 1, 1)))
        # Loops that no stream reaches, or that nobody sees.
        both = Matrix([[Ratio(1, 2), 0], [0, 0]])
        self.assertTrue(is_loopless(Machine(both, Matrix([[0], [1]]), Matrix([[1, 1]]), Matrix([[0]]), [1, 1], [1], [1])))
        self.assertTrue(is_loopless(Machine(both, Matrix([[1], [1]]), Matrix([[0, 1]]), Matrix([[0]]), [1, 1], [1], [1])))
        self.assertFalse(is_loopless(Machine(both, Matrix([[1], [1]]), Matrix([[1, 1]]), Matrix([[0]]), [1, 1], [1], [1])))
        self.assertTrue(is_loopless(Machine(identity(1), zeros(1, 0), identity(1), zeros(1, 0), [1], [], [1])))

    def test_by_chance(self):
        chance = random.Random(144)
        found = {True: 0, False: 0}
        for number in range(120):
            make = loopless_machine if number % 2 else random_machine
            machine = make(chance, chance.randint(0, 4), chance.randint(0, 2), chance.randint(0, 2), 4)
            size = machine.size()
            answers = [machine.answer(turn) for turn in range(size + 1, 2 * size + 2)]
            expected = all(answer == zeros(answer.height, answer.width) for answer in answers)
            self.assertIs(is_loopless(machine), expected)
            found[expected] += 1
        self.assertGreater(min(found.values()), 8)


if __name__ == "__main__":
    unittest.main()
