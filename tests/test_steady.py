"""The tools that keep the outs of machines at 0, and that bring states to rest."""

import random
import unittest

from allstreams.matrices import Matrix, blocks, identity, zeros
from allstreams.quiet import no_rows
from allstreams.ratios import Ratio
from allstreams.spaces import at_places, column_space
from allstreams.steady import Steady, lasting_rows
from allstreams.steering import steered
from tests.helpers import Case
from tests.random_machines import changed, random_machine, random_matrix
from tests.test_spaces import AWKWARD
from tests.test_stairs import silent


def column_of(items):
    return Matrix([[item] for item in items], 1)


class Steered(Case):
    def check(self, matrix, given, begun):
        told = steered(matrix, given, begun)
        self.assertTrue(type(told) is list and all(type(column) is list for column in told))
        self.assertEqual({type(part) for column in told for part in column} - {Ratio}, set())
        self.assertLessEqual(len(told), matrix.height)
        states = begun
        for column in told:
            states = matrix * states + given * column_of(column)
        self.assertEqual(states, zeros(matrix.height, 1))
        return told

    def test_by_chance(self):
        chance = random.Random(241)
        lengths = set()
        for _ in range(150):
            size, lanes = chance.randint(0, 5), chance.randint(0, 3)
            matrix, given = random_matrix(chance, size, size), random_matrix(chance, size, lanes)
            space = column_space(given, matrix)
            begun = space * random_matrix(chance, space.width, 1)
            lengths.add(len(self.check(matrix, given, begun)))
        self.assertGreater(len(lengths), 3)

    def test_states_that_go_by_themselves(self):
        line = Matrix([[0, 1, 0], [0, 0, 1], [0, 0, 0]])
        self.assertEqual(self.check(line, zeros(3, 0), column_of([1, 2, 3])), [[], [], []])
        self.assertEqual(self.check(line, zeros(3, 2), column_of([5, 0, 0])), [[Ratio(0), Ratio(0)]])
        self.assertEqual(self.check(line, zeros(3, 1), zeros(3, 1)), [])
        self.assertEqual(self.check(zeros(0, 0), zeros(0, 2), zeros(0, 1)), [])
        self.assertEqual(self.check(Matrix([[3]]), Matrix([[Ratio(1, 2)]]), column_of([5])), [[Ratio(-30)]])

    def test_numbers_that_the_moduli_do_not_see(self):
        for great in AWKWARD:
            self.check(Matrix([[1]]), Matrix([[great]]), column_of([1]))
            self.check(Matrix([[great]]), Matrix([[1]]), column_of([1]))
            self.check(Matrix([[Ratio(1, great)]]), Matrix([[1]]), column_of([great]))
            self.check(Matrix([[0, great], [0, 0]]), Matrix([[1], [1]]), column_of([0, 1]))
            self.check(Matrix([[1, great], [1, 1]]), Matrix([[1], [Ratio(2, great)]]), column_of([Ratio(1, great), 1]))


class Lasting(Case):
    def test_powers(self):
        chance = random.Random(242)
        heights = set()
        for number in range(120):
            size = chance.randint(0, 5)
            matrix = random_matrix(chance, size, size, chance.randint(2, 8))
            if number % 3 == 0:
                matrix = Matrix([[entry if column > row else 0 for column, entry in enumerate(line)]
                                 for row, line in enumerate(matrix.rows)], size)
            told = lasting_rows(matrix)
            self.assertEqual(told, matrix.power(size).turned().echelon())
            heights.add(told.height)
        self.assertGreater(len(heights), 4)


def quiet_states(machine, rows):
    """Rows that tell 0 for the states from which the outs can be kept at 0 for as many turns as there are states,
    and once more, within those of which the rows tell 0; they are found from the ins of all turns at once."""
    size, lanes = machine.size(), machine.b.width
    lines = []
    power = [identity(size)]
    for _ in range(size + 1):
        power.append(machine.a * power[-1])
    for turn in range(size + 1):
        ins = [machine.answer(turn - at) if at <= turn else zeros(machine.c.height, lanes) for at in range(size + 1)]
        lines.append(blocks([[machine.c * power[turn], *ins]]))
        made = [power[turn - at - 1] * machine.b if at < turn else zeros(size, lanes) for at in range(size + 1)]
        lines.append(rows * blocks([[power[turn], *made]]))
    kernel = blocks([[line] for line in lines]).kernel()
    states = Matrix(kernel.rows[:size], kernel.width)
    return states.turned().kernel().turned().echelon()


class SteadyStates(Case):
    def check(self, machine, rows):
        steady = Steady(machine, rows)
        self.assertEqual(steady.rows, quiet_states(machine, rows))
        nothing = zeros(machine.c.height, steady.basis.width)
        self.assertEqual(steady.rows * steady.basis, zeros(steady.rows.height, steady.basis.width))
        self.assertEqual(steady.rows.height + steady.basis.width, machine.size())
        self.assertEqual(machine.c * steady.basis + machine.d * steady.ins, nothing)
        self.assertEqual(machine.a * steady.basis + machine.b * steady.ins, steady.basis * steady.after)
        self.assertEqual(machine.b * steady.freely, steady.basis * steady.added)
        self.assertEqual(machine.d * steady.freely, zeros(machine.c.height, steady.freely.width))
        many = blocks([[machine.d], [steady.rows * machine.b]]).kernel().width
        self.assertEqual([steady.freely.width, steady.freely.rank()], [many, many])
        if many:
            self.check_way_back(machine, steady)
        return steady

    def check_way_back(self, machine, steady):
        way = steady.way_back()
        self.assertTrue(any(item != Ratio(0) for item in way[0]))
        self.assertLessEqual(len(way), machine.size() + 1)
        states = zeros(machine.size(), 1)
        for column in [column_of(turn) for turn in way]:
            self.assertEqual(machine.c * states + machine.d * column, zeros(machine.c.height, 1))
            states = machine.a * states + machine.b * column
        self.assertEqual(states, zeros(machine.size(), 1))

    def test_by_chance(self):
        chance = random.Random(243)
        kinds = set()
        for _ in range(150):
            machine = random_machine(chance, chance.randint(0, 4), chance.randint(0, 3), chance.randint(0, 3),
                                     chance.randint(2, 9))
            if chance.random() < 0.5:
                machine = changed(machine, d=zeros(machine.d.height, machine.d.width))
            rows = no_rows(machine)
            if chance.random() < 0.4:
                rows = random_matrix(chance, chance.randint(0, 2), machine.size()).echelon()
            steady = self.check(machine, rows)
            kinds.add((steady.basis.width > 0, steady.freely.width > 0))
        self.assertEqual(len(kinds), 4)

    def test_reached(self):
        machine = silent(3, 2, 0)
        steady = self.check(machine, no_rows(machine))
        self.assertEqual(steady.space_reached(), column_space(machine.b, machine.a))
        self.assertEqual(at_places(steady.basis, [0, 1, 2]), identity(3))


if __name__ == "__main__":
    unittest.main()
