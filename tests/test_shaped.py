"""[94]: texts made of machines."""

import random
import unittest

from allstreams.errors import TooMany
from allstreams.machines import Machine
from allstreams.matrices import Matrix, zeros
from allstreams.naming import machine_of
from allstreams.needs import lives
from allstreams.paces import paces
from allstreams.ratios import Ratio
from allstreams.shaped import text_of
from allstreams.turns import run_turns
from allstreams.wiring import Text
from tests.helpers import STRANGE, Case
from tests.random_machines import random_columns, random_machine, told_by

HALF = Machine(Matrix([[Ratio(1, 2)]]), Matrix([[1]]), Matrix([[1]]), Matrix([[0]]), [3], [1], [1])
TWO = Machine(zeros(0, 0), zeros(0, 3), zeros(3, 0), zeros(3, 3), [], [1, 2], [2, 1])


def names_for(machine):
    return [f"i{number}" for number in range(len(machine.ins))], [f"o{number}" for number in range(len(machine.outs))]


class Shaped(Case):
    def check(self, machine, chance, turns=3):
        ins, outs = names_for(machine)
        text = text_of(machine, "made", ins, outs)
        self.assertIs(type(text), Text)
        self.assertEqual([text.name, text.ins, text.outs], ["made", tuple(ins), tuple(outs)])
        self.assertTrue(lives(text))
        told = paces(text)
        self.assertEqual([told[name] for name in ins + outs], [*machine.ins, *machine.outs])
        most = 2 * machine.size() + sum(machine.outs) + len(ins) + len(outs) + 1
        self.assertLessEqual(len(text.statements), most)
        columns = random_columns(chance, machine, turns)
        given, first = {}, 0
        for name, many in zip(ins, machine.ins):
            given[name] = [item for column in columns for item in column[first:first + many]]
            first += many
        found = run_turns(text, given, turns)
        first, expected = 0, told_by(machine, columns)
        for name, many in zip(outs, machine.outs):
            items = [item for row in expected for item in row[first:first + many]]
            self.assertEqual([(item.numerator, item.denominator) for item in items],
                             [(item.top, item.bottom) for item in found[name]])
            first += many
        return text

    def test_by_chance(self):
        chance = random.Random(101)
        for _ in range(150):
            machine = random_machine(
                chance, chance.randint(0, 4), chance.randint(0, 5), chance.randint(1, 5), chance.randint(0, 10))
            text = self.check(machine, chance)
            again = machine_of(text)
            self.assertEqual([again.ins, again.outs], [machine.ins, machine.outs])

    def test_without_states_ins_and_numbers(self):
        chance = random.Random(102)
        nothing = Machine(zeros(0, 0), zeros(0, 0), zeros(1, 0), zeros(1, 0), [], [], [1])
        self.check(nothing, chance)
        self.check(Machine(zeros(0, 0), zeros(0, 0), zeros(5, 0), zeros(5, 0), [], [], [2, 3]), chance)
        self.check(Machine(Matrix([[2]]), zeros(1, 0), Matrix([[1]]), zeros(1, 0), [1], [], [1]), chance)
        self.check(Machine(zeros(0, 0), zeros(0, 1), zeros(1, 0), Matrix([[5]]), [], [1], [1]), chance)
        self.check(TWO, chance)
        # Nothing ties these to each other but noughts.
        self.check(Machine(zeros(2, 2), zeros(2, 2), zeros(2, 2), zeros(2, 2), [1, 2], [1, 1], [1, 1]), chance)
        self.check(Machine(zeros(0, 0), zeros(0, 4), zeros(4, 0), zeros(4, 4), [], [4], [4]), chance)

    def test_names_that_are_taken(self):
        machine = random_machine(random.Random(103), 2, 2, 2)
        machine = Machine(machine.a, machine.b, machine.c, machine.d, machine.start, [2], [2])
        for one, other in [("s0", "n0"), ("n1", "s1"), ("i0", "o0"), ("o1", "i1"), ("z0", "s0"), ("x" * 40, "y" * 40)]:
            text = text_of(machine, "s0", [one], [other])
            self.assertEqual(machine_of(text).answer(3), machine.answer(3))
        nothing = Machine(zeros(0, 0), zeros(0, 0), zeros(1, 0), zeros(1, 0), [], [], [1])
        self.assertEqual(text_of(nothing, "z0", [], ["z0"]).outs, ("z0",))

    def test_60_boxes(self):
        def wide(states, ins, outs):
            return Machine(zeros(states, states), zeros(states, sum(ins)), zeros(sum(outs), states),
                           zeros(sum(outs), sum(ins)), [1] * states, ins, outs)
        self.check(wide(28, [1], [1]), random.Random(104))
        self.check(wide(27, [1], [3]), random.Random(104), 1)
        self.assertEqual(len(text_of(wide(0, [60], [57]), "a", ["u"], ["y"]).statements), 59)
        for states, ins, outs in [(28, [1, 1], [1]), (29, [], [1]), (28, [2], [2]), (0, [1], [58]), (0, [1] * 58, [1])]:
            machine = wide(states, ins, outs)
            self.raises(TooMany, lambda: text_of(machine, "a", *names_for(machine)), most=60)

    def test_wrong(self):
        self.each_bad(lambda value: text_of(value, "a", ["u"], ["y"]))
        self.each_bad(lambda value: text_of(HALF, value, ["u"], ["y"]), [*STRANGE, "", "A", "text", "x" * 41],
                      but=("x",))
        self.each_bad(lambda value: text_of(HALF, "a", value, ["y"]),
                      [None, "u", {"u": 1}, 1, True, [], ["u", "v"], ("u", "u"), ["u", "v", "w"]])
        self.each_bad(lambda value: text_of(HALF, "a", ["u"], value),
                      [None, "u", {"u": 1}, 1, True, [], ["u"], ["y", "v"], ("y", "y")])
        for item in (None, 1, "", "A", "text", True, [], "x" * 41):
            self.bad(item, lambda: text_of(HALF, "a", [item, 7], ["y"]))
            self.bad(item, lambda: text_of(HALF, "a", ["u"], ["y", item, 7]))
        silent = Machine(zeros(1, 1), zeros(1, 1), zeros(0, 1), zeros(0, 1), [0], [1], [])
        self.bad(silent, lambda: text_of(silent, "A", ["u"], []))
        self.bad(silent, lambda: text_of(silent, "a", ["u"], []))
        self.bad("A", lambda: text_of(HALF, "A", ["U"], ["Y"]))
        self.bad("U", lambda: text_of(HALF, "a", ["U"], ["Y"]))

    def test_nothing_is_changed(self):
        ins, outs = ["u"], ["y"]
        text = text_of(HALF, "a", ins, outs)
        self.assertEqual([ins, outs, text], [["u"], ["y"], text_of(HALF, "a", ("u",), ("y",))])


if __name__ == "__main__":
    unittest.main()
