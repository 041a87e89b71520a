"""[48], [105]: states that are not seen, and sums of states that are not reached."""

import random
import unittest

from allstreams.least import memory
from allstreams.machines import Machine
from allstreams.matrices import Matrix, blocks, identity, zeros
from allstreams.ratios import Ratio
from allstreams.sightless import unreached, unseen
from tests.helpers import STRANGE, Case
from tests.random_machines import changed, random_columns, random_machine
from tests.test_stairs import silent


def column_of(items):
    return Matrix([[item] for item in items], 1)


def rows_of(machine):
    """c, c * a and so on, far enough."""
    return blocks([[machine.c * machine.a.power(turn)] for turn in range(machine.size() + 1)])


def columns_of(machine):
    """start, b, a * start, a * b and so on, far enough."""
    given = blocks([[column_of(machine.start), machine.b]])
    return blocks([[machine.a.power(turn) * given for turn in range(machine.size() + 1)]])


def with_start(machine, start):
    return changed(machine, start=start)


class Sightless(Case):
    def test_one_of_each(self):
        # State 0 is reached and seen, 1 is reached alone, 2 is seen alone, 3 is neither.
        a = Matrix([[0, 0, 0, 0], [0, 2, 0, 0], [0, 0, 3, 0], [0, 0, 0, 5]])
        machine = Machine(a, Matrix([[1], [1], [0], [0]]), Matrix([[1, 0, 1, 0]]), Matrix([[0]]), [0] * 4, [1], [1])
        self.assertEqual(str(unseen(machine)), "[0 0; 1 0; 0 0; 0 1]")
        self.assertEqual(str(unreached(machine)), "[0 0 1 0; 0 0 0 1]")
        self.assertEqual(memory(machine), 1)
        # A start may reach what no in does.
        self.assertEqual(str(unreached(with_start(machine, [0, 0, 7, 0]))), "[0 0 0 1]")
        self.assertEqual(str(unreached(with_start(machine, [0, 0, 7, 9]))), "[0 x 4]")

    def test_what_is_unseen_needs_not_be_reached(self):
        # The memory is greater than the states less both ranks.
        machine = Machine(identity(1), zeros(1, 1), zeros(1, 1), zeros(1, 1), [0], [1], [1])
        self.assertEqual([unseen(machine).width, unreached(machine).height, memory(machine)], [1, 1, 0])

    def test_sums_of_states(self):
        a = Matrix([[1, 1], [0, 1]])
        machine = Machine(a, Matrix([[1], [1]]), Matrix([[0, 1]]), Matrix([[1]]), [2, 2], [1], [1])
        self.assertEqual([str(unseen(machine)), str(unreached(machine))], ["[1; 0]", "[0 x 2]"])
        machine = Machine(identity(2), Matrix([[1], [1]]), Matrix([[1, 2]]), Matrix([[1]]), [2, 2], [1], [1])
        self.assertEqual([str(unseen(machine)), str(unreached(machine))], ["[-2; 1]", "[-1 1]"])

    def test_without_states_and_lanes(self):
        for states, ins, outs in ((0, 0, 0), (0, 2, 1), (3, 0, 0), (3, 0, 2), (3, 2, 0)):
            machine = silent(states, ins, outs).at_rest()
            self.assertEqual(unseen(machine), identity(states))
            self.assertEqual(unreached(machine), identity(states))
        blind = Machine(identity(2), identity(2), zeros(0, 2), zeros(0, 2), [0, 0], [2], [])
        self.assertEqual([unseen(blind), unreached(blind)], [identity(2), zeros(0, 2)])
        deaf = Machine(identity(2), zeros(2, 0), identity(2), zeros(2, 0), [0, 1], [], [2])
        self.assertEqual([str(unseen(deaf)), str(unreached(deaf))], ["[2 x 0]", "[1 0]"])

    def test_by_chance(self):
        chance = random.Random(301)
        kinds = set()
        for _ in range(120):
            machine = random_machine(chance, chance.randint(0, 4), chance.randint(0, 2), chance.randint(0, 2),
                                     chance.randint(4, 9), chance.random() < 0.5)
            hidden, idle = unseen(machine), unreached(machine)
            self.assertEqual(hidden, rows_of(machine).kernel())
            self.assertEqual(idle, columns_of(machine).turned().kernel().turned())
            kinds.add((hidden.width > 0, idle.height > 0))
            self.assertEqual(memory(machine) == machine.size(), hidden.width == 0 and idle.height == 0)
            self.assertGreaterEqual(memory(machine), machine.size() - hidden.width - idle.height)
            self.check_words(chance, machine, hidden, idle)
        self.assertEqual(len(kinds), 4)

    def check_words(self, chance, machine, hidden, idle):
        """What is unseen changes nothing that is given; sums that are unreached are 0 in all turns."""
        inputs = random_columns(chance, machine, 5)
        for column in hidden.turned().rows:
            start = [one + two for one, two in zip(machine.start, column)]
            self.assertEqual(with_start(machine, start).run(inputs), machine.run(inputs))
        shown = Machine(machine.a, machine.b, idle, zeros(idle.height, machine.b.width), machine.start, machine.ins,
                        [1] * idle.height)
        self.assertEqual(shown.run(inputs), [[Ratio(0)] * idle.height] * 5)

    def test_wrong_inputs(self):
        self.each_bad(unseen)
        self.each_bad(unreached)
        self.assertIn(None, STRANGE)

    def test_nothing_is_changed(self):
        machine = random_machine(random.Random(302), 3, 1, 1)
        again = random_machine(random.Random(302), 3, 1, 1)
        self.assertEqual([unseen(machine), unreached(machine)], [unseen(machine=again), unreached(machine=again)])
        self.assertEqual(machine, again)


if __name__ == "__main__":
    unittest.main()
