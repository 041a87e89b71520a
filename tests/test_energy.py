"""[42], [101]: machines that keep the energy of finite streams."""

import random
import unittest

from allstreams.energy import energy_breaker, keeps_energy
from allstreams.errors import HasLoops
from allstreams.machines import Machine
from allstreams.matrices import Matrix, identity, zeros
from allstreams.ratios import Ratio
from tests.helpers import Case, fraction
from tests.random_machines import changed, loopless_machine, random_columns
from tests.test_stairs import HALF, LATE, silent

# Turned by the angle with 3/5 and 4/5, with one lane late between two turns.
TURN = Matrix([[Ratio(3, 5), Ratio(4, 5)], [Ratio(4, 5), Ratio(-3, 5)]])


def energy(columns):
    return sum(fraction(item) ** 2 if isinstance(item, Ratio) else item ** 2 for turn in columns for item in turn)


def late_turns(many):
    """A machine that keeps energy: lane 1 goes so many turns late, and then both are turned."""
    line = [[1 if column == row + 1 else 0 for column in range(many)] for row in range(many)]
    told = Matrix([[1, 0], [0, 0]])
    last = [[0, 1 if row == many - 1 else 0] for row in range(many)]
    first = Matrix([[0] * many, [1] + [0] * (many - 1)])
    return Machine(Matrix(line), Matrix(last) * TURN, TURN * first, TURN * told * TURN, [1] * many, [2], [1, 1])


class Energy(Case):
    def check_breaker(self, machine):
        self.assertIs(keeps_energy(machine), False)
        stream = energy_breaker(machine)
        self.assertEqual([type(stream), {type(turn) for turn in stream}], [list, {list}])
        items = [item for turn in stream for item in turn]
        self.assertEqual({type(item) for item in items}, {Ratio})
        ones = [item for item in items if item != Ratio(0)]
        self.assertTrue(1 <= len(ones) <= 2 and all(item == Ratio(1) for item in ones))
        behind = [[0] * machine.b.width] * (machine.size() + 2)
        self.assertNotEqual(energy(machine.at_rest().run(stream + behind)), len(ones))

    def check_kept(self, machine, chance):
        self.assertIs(keeps_energy(machine), True)
        self.assertIsNone(energy_breaker(machine))
        columns = random_columns(chance, machine, 4)
        behind = [[0] * machine.b.width] * (machine.size() + 2)
        self.assertEqual(energy(machine.at_rest().run(columns + behind)), energy(columns))

    def test_kept(self):
        chance = random.Random(191)
        self.check_kept(LATE, chance)
        for many in (1, 2, 5):
            self.check_kept(late_turns(many), chance)
            self.check_kept(late_turns(many).over(3), chance)
        none = silent(0, 0, 0)
        self.check_kept(Machine(none.a, zeros(0, 2), zeros(3, 0), Matrix([[1, 0], [0, 0], [0, -1]]), [], [2], [3]), chance)
        self.check_kept(silent(2, 0, 1), chance)
        # Loops that no stream reaches have no influence.
        self.check_kept(Machine(identity(1), zeros(1, 1), identity(1), identity(1), [1], [1], [1]), chance)

    def test_not_kept(self):
        self.check_breaker(silent(0, 1, 1))
        self.check_breaker(silent(1, 2, 0))
        self.check_breaker(Machine(zeros(0, 0), zeros(0, 1), zeros(1, 0), Matrix([[2]]), [], [1], [1]))
        # Each 1 by itself keeps its energy, two in one turn do not.
        both = Matrix([[Ratio(3, 5), 1], [Ratio(4, 5), 0]])
        machine = Machine(zeros(0, 0), zeros(0, 2), zeros(2, 0), both, [], [2], [2])
        self.check_breaker(machine)
        self.assertEqual(energy(energy_breaker(machine)), 2)
        # Both lanes together keep their energy by chance, but the second one alone does not.
        hidden = Machine(zeros(0, 0), zeros(0, 2), zeros(2, 0), Matrix([[1, -2], [0, 1]]), [], [2], [2])
        self.check_breaker(hidden)
        self.assertEqual(energy_breaker(hidden), [[Ratio(0), Ratio(1)]])
        # Two 1s some turns apart.
        late = Machine(Matrix([[0]]), Matrix([[1]]), Matrix([[Ratio(4, 5)]]), Matrix([[Ratio(3, 5)]]), [0], [1], [1])
        self.check_breaker(late)
        self.assertEqual(energy_breaker(late), [[Ratio(1)], [Ratio(1)]])
        far = changed(late_turns(4), c=late_turns(4).c * Ratio(1, 2))
        self.check_breaker(far)

    def test_by_chance(self):
        chance = random.Random(192)
        for _ in range(80):
            machine = loopless_machine(chance, chance.randint(0, 3), chance.randint(1, 3), chance.randint(0, 3))
            answers = [machine.answer(turn) for turn in range(machine.size() + 1)]
            kept = True
            for turn in range(len(answers)):
                total = zeros(machine.b.width, machine.b.width)
                for ahead, behind in zip(answers, answers[turn:]):
                    total = total + behind.turned() * ahead
                kept = kept and total == (identity(machine.b.width) if turn == 0 else zeros(*[machine.b.width] * 2))
            self.check_kept(machine, chance) if kept else self.check_breaker(machine)

    def test_two_ones_far_apart(self):
        # Both lanes tell the same, one of them late: only the second 1 that meets the first one shows it.
        line = [[1 if column == row + 1 else 0 for column in range(3)] for row in range(3)]
        machine = Machine(Matrix(line), Matrix([[0, 0], [0, 0], [0, 1]]), Matrix([[1, 0, 0]]), Matrix([[1, 0]]),
                          [0] * 3, [2], [1])
        self.check_breaker(machine)
        self.assertEqual(energy_breaker(machine), [[Ratio(0), Ratio(1)], *[[Ratio(0)] * 2] * 2, [Ratio(1), Ratio(0)]])

    def test_starts_have_no_influence(self):
        for start in ([0, 0], [3, 4]):
            self.assertTrue(keeps_energy(changed(LATE, start=start)))

    def test_errors(self):
        for call in (keeps_energy, energy_breaker):
            self.each_bad(call)
            self.raises(HasLoops, lambda: call(HALF))
        energy_breaker(silent(0, 1, 1))[0].append(1)
        self.assertEqual(energy_breaker(silent(0, 1, 1)), [[Ratio(1)]])

    def test_60_states_and_60_lanes(self):
        wide = Machine(zeros(60, 60), identity(60), identity(60), zeros(60, 60), [1] * 60, [60], [30, 30])
        self.assertTrue(keeps_energy(wide))
        self.check_breaker(changed(wide, d=identity(60)))


if __name__ == "__main__":
    unittest.main()
