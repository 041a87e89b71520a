"""[45], [46], [47], [104]: memory, least machines, and changes of states."""

import random
import unittest

from allstreams.least import change_between, least_machine, memory, memory_paper
from allstreams.machines import Machine
from allstreams.matrices import Matrix, blocks, identity, zeros
from allstreams.ratios import Ratio
from tests.helpers import Case
from tests.random_machines import changed, random_columns, random_machine, random_matrix
from tests.test_stairs import HALF, LATE, silent


def column_of(items):
    return Matrix([[item] for item in items], 1)


def table_entry(machine, row, column):
    """Point 45, by the letter."""
    (turn, lane), (ahead, given) = row, column
    if given is None:
        return (machine.c * machine.a.power(turn + ahead) * column_of(machine.start)).rows[lane][0]
    return machine.answer(turn + ahead + 1).rows[lane][given]


def table_rows(machine, many):
    return [(turn, lane) for turn in range(many) for lane in range(machine.c.height)]


def table_columns(machine, many):
    return [(turn, lane) for turn in range(many) for lane in [*range(machine.b.width), None]]


def table(machine, rows, columns):
    return Matrix([[table_entry(machine, row, column) for column in columns] for row in rows], len(columns))


def in_other_states(machine, change):
    """The machine whose states are these multiples of the old ones."""
    back = change.inverse()
    return Machine(change * machine.a * back, change * machine.b, machine.c * back, machine.d,
                   [row[0] for row in (change * column_of(machine.start)).rows], machine.ins, machine.outs)


def random_change(chance, size):
    while True:
        change = random_matrix(chance, size, size, 3)
        if change.rank() == size:
            return change


def together(one, other):
    """A machine with the states of both, the second one's unseen; it does what the first one does."""
    return Machine(
        blocks([[one.a, zeros(one.size(), other.size())], [zeros(other.size(), one.size()), other.a]]),
        blocks([[one.b], [zeros(other.size(), one.b.width)]]), blocks([[one.c, zeros(one.c.height, other.size())]]),
        one.d, one.start + other.start, one.ins, one.outs)


class Memory(Case):
    def check(self, machine, chance):
        size = machine.size()
        whole = table(machine, table_rows(machine, size), table_columns(machine, size))
        many = memory(machine)
        self.assertEqual(many, whole.rank())
        paper = memory_paper(machine)
        self.assertEqual([type(paper), [type(part) for part in paper]], [tuple, [list, list]])
        rows, columns = paper
        self.assertEqual([len(rows), len(columns)], [many, many])
        self.assertTrue(set(rows) <= set(table_rows(machine, size)))
        self.assertTrue(set(columns) <= set(table_columns(machine, size)))
        self.assertNotEqual(table(machine, rows, columns).determinant(), Ratio(0))
        least = least_machine(machine)
        self.assertEqual([least.size(), least.ins, least.outs], [many, machine.ins, machine.outs])
        inputs = random_columns(chance, machine, 2 * size + 2)
        self.assertEqual(least.run(inputs), machine.run(inputs))
        self.check_fresh(machine, least, whole)
        self.assertEqual(least_machine(least), least)

    def check_fresh(self, machine, least, whole):
        """Point 46: the states are what the lanes of the fresh rows would give later if only zeros were given."""
        size, fresh, last = machine.size(), [], 0
        for number, row in enumerate(table_rows(machine, size), start=1):
            rank = Matrix(whole.rows[:number], whole.width).rank()
            if rank > last:
                fresh.append(row)
            last = rank
        for column in table_columns(machine, 2):
            # Ahead of turn 0 there is the start; a 1 in a lane comes in one turn later.
            states = column_of(least.start) if column[1] is None else column_at(least.b, column[1])
            for _ in range(column[0]):
                states = least.a * states
            self.assertEqual([row[0] for row in states.rows], [table_entry(machine, row, column) for row in fresh])

    def test_some(self):
        chance = random.Random(211)
        self.assertEqual([memory(HALF), memory(LATE), memory(silent(3, 1, 1)), memory(silent(0, 2, 2))], [1, 2, 0, 0])
        for machine in (HALF, LATE, silent(3, 1, 1), silent(0, 2, 2), silent(2, 0, 1), silent(2, 1, 0), silent(0, 0, 0)):
            self.check(machine, chance)
        self.assertEqual(memory_paper(silent(3, 1, 1)), ([], []))

    def test_a_start_alone(self):
        chance = random.Random(212)
        turns = Machine(Matrix([[0, 1], [1, 0]]), zeros(2, 0), Matrix([[1, 0]]), zeros(1, 0), [1, 0], [], [1])
        self.assertEqual([memory(turns), memory(turns.over(2)), memory(turns.at_rest())], [2, 1, 0])
        for machine in (turns, turns.over(2), turns.at_rest()):
            self.check(machine, chance)
        self.assertEqual({lane for _, lane in memory_paper(turns)[1]}, {None})

    def test_unreached_and_unseen_states(self):
        chance = random.Random(213)
        half = Ratio(1, 2)
        for b, c, start, many in [([[1], [0]], [[1, 0]], [0, 1], 1), ([[1], [0]], [[0, 1]], [0, 0], 0),
                                  ([[1], [0]], [[0, 1]], [0, 1], 1), ([[1], [0]], [[1, 1]], [0, 1], 2),
                                  ([[1], [1]], [[1, 0]], [5, 5], 1), ([[1], [1]], [[1, 1]], [0, 0], 2)]:
            machine = Machine(Matrix([[half, 0], [0, 3]]), Matrix(b), Matrix(c), Matrix([[0]]), start, [1], [1])
            self.assertEqual(memory(machine), many)
            self.check(machine, chance)
        # Reached as a sum alone: both states are always equal.
        equal = Machine(identity(2) * half, Matrix([[1], [1]]), identity(2), zeros(2, 1), [1, 1], [1], [2])
        self.assertEqual(memory(equal), 1)
        self.check(equal, chance)

    def test_by_chance(self):
        chance = random.Random(214)
        seen = set()
        for _ in range(80):
            machine = random_machine(chance, chance.randint(0, 4), chance.randint(0, 2), chance.randint(0, 3),
                                     chance.randint(2, 9), chance.random() < 0.4)
            self.check(machine, chance)
            seen.add((machine.size(), memory(machine)))
        self.assertGreater(len(seen), 8)

    def test_it_is_one(self):
        chance = random.Random(215)
        for _ in range(40):
            machine = random_machine(chance, chance.randint(1, 3), chance.randint(0, 2), chance.randint(1, 2))
            other = together(machine, random_machine(chance, 2, 0, 0))
            other = in_other_states(other, random_change(chance, other.size()))
            self.assertEqual(least_machine(other), least_machine(machine))
            if machine.start != machine.at_rest().start:
                least = least_machine(machine)
                twice = changed(least, start=[2 * item for item in least.start])
                self.assertEqual(least_machine(twice) == least, least.start == least.at_rest().start)
            rest = machine.at_rest()
            self.assertEqual(memory(rest.over(2)), memory(rest))
            self.assertLessEqual(memory(machine.over(2)), memory(machine))

    def test_great_numbers(self):
        # Numbers that a modulus takes for 0, or has no inverse for, change nothing.
        for great in (2 ** 128 + 1, 59649589127497217, 5704689200685129054721, (2 ** 128 + 1) * (2 ** 256 + 1)):
            for entry in (Ratio(great), Ratio(1, great), Ratio(great, 3)):
                machine = Machine(Matrix([[0, entry], [1, 0]]), Matrix([[1], [0]]), Matrix([[1, entry]]), Matrix([[0]]),
                                  [0, 0], [1], [1])
                self.assertEqual(memory(machine), 2)
                self.check(machine, random.Random(216))
                self.check(changed(machine, c=Matrix([[0, entry]]), b=Matrix([[entry], [0]])), random.Random(217))

    def test_wrong(self):
        for call in (memory, memory_paper, least_machine):
            self.each_bad(call)
        memory_paper(HALF)[0].append(1)
        self.assertEqual(memory_paper(HALF), memory_paper(HALF))
        self.assertEqual(len(memory_paper(HALF)[0]), 1)


def column_at(matrix, column):
    return Matrix([[row[column]] for row in matrix.rows], 1)


class Changes(Case):
    def test_changes(self):
        chance = random.Random(221)
        for _ in range(50):
            least = least_machine(random_machine(chance, chance.randint(0, 4), chance.randint(0, 2), chance.randint(0, 2)))
            change = random_change(chance, least.size())
            one = in_other_states(least, random_change(chance, least.size()))
            other = in_other_states(one, change)
            told = change_between(one, other)
            self.assertIs(type(told), Matrix)
            self.assertEqual(told, change)
            self.assertEqual([told * one.a, told * one.b, one.c], [other.a * told, other.b, other.c * told])
            self.assertEqual(told * column_of(one.start), column_of(other.start))
            self.assertEqual(change_between(one, one), identity(one.size()))

    def test_none(self):
        self.assertIsNone(change_between(HALF, changed(HALF, start=[2])))
        self.assertIsNone(change_between(HALF, changed(HALF, d=Matrix([[3]]))))
        self.assertIsNone(change_between(HALF, changed(HALF, a=Matrix([[1]]))))
        self.assertIsNone(change_between(HALF, LATE))
        nothing = silent(0, 1, 1)
        self.assertEqual(change_between(nothing, nothing), zeros(0, 0))
        self.assertIsNone(change_between(nothing, changed(nothing, d=Matrix([[1]]))))

    def test_wrong(self):
        self.each_bad(lambda value: change_between(value, HALF))
        self.each_bad(lambda value: change_between(HALF, value))
        more = silent(1, 1, 1)
        self.bad(more, lambda: change_between(more, None))
        self.bad(more, lambda: change_between(HALF, more))
        for other in (changed(HALF.over(2), ins=[1, 1]), HALF.over(2)):
            self.bad(other, lambda: change_between(HALF, other))
        two = Machine(zeros(0, 0), zeros(0, 2), zeros(2, 0), identity(2), [], [2], [2])
        for name, lanes in (("ins", [1, 1]), ("outs", [1, 1])):
            other = changed(two, **{name: lanes})
            self.bad(other, lambda: change_between(two, other))
            self.assertIsNotNone(change_between(two, two))

    def test_60_states(self):
        chance = random.Random(222)
        machine = random_machine(chance, 60, 2, 2, 0)
        self.assertEqual(memory(machine), 60)
        other = changed(machine, start=[2 * item for item in machine.start])
        self.assertIsNone(change_between(machine, other))
        self.assertEqual(change_between(machine, machine), identity(60))
        wide = random_machine(chance, 60, 60, 60, 0)
        inputs = random_columns(chance, wide, 3)
        self.assertEqual(least_machine(wide).run(inputs), wide.run(inputs))
        self.assertEqual(len(memory_paper(wide)[0]), 60)


if __name__ == "__main__":
    unittest.main()
