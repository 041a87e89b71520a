"""[60], [117]: the machines of codes, and codes that do the same."""

import random
import unittest

from allstreams.codes import Code
from allstreams.coderuns import run_code
from allstreams.codeturns import code_parting, machine_of_code, same_codes
from allstreams.errors import Unlike
from allstreams.machines import Machine
from allstreams.matrices import Matrix
from allstreams.ratios import Ratio
from allstreams.reader import read_texts
from allstreams.making import code_of
from allstreams.plans import first_plan
from tests.helpers import Case
from tests.random_codes import random_code
from tests.random_machines import random_columns
from tests.test_codes import HALF, ONE, TOLD, loop


class Machines(Case):
    def test_rings(self):
        machine = machine_of_code(loop())
        self.assertIs(type(machine), Machine)
        self.assertEqual([str(machine.a), str(machine.b), str(machine.c), str(machine.d)],
                         ["[0 1; 1/2 0]", "[0; 1]", "[1/2 0]", "[1]"])
        self.assertEqual([machine.start, machine.ins, machine.outs], [(Ratio(0), Ratio(-3)), (1,), (1,)])

    def test_states_in_their_order(self):
        # Two rings, then the kept cells 0 and 3, then the one that is always 1.
        code = Code([("u", 1)], [("y", 1)], 5, [[5], [6, 7]], [
            ("sum", 2, ((ONE, 3), (HALF, 0))), ("take", 1, "u"), ("put", 4, Ratio(9)), ("sum", 0, ((ONE, 0), (ONE, 1))),
            ("pull", 1, 1), ("push", 1, 4), ("give", "y", 2), ("sum", 3, ((ONE, 1),))])
        machine = machine_of_code(code)
        self.assertEqual([str(item) for item in machine.start], ["5", "6", "7", "0", "0", "1"])
        self.assertEqual(machine.a, Matrix([
            [1, 0, 0, 0, 0, 0], [0, 0, 1, 0, 0, 0], [0, 0, 0, 0, 0, 9], [0, 0, 0, 1, 0, 0], [0, 1, 0, 0, 0, 0],
            [0, 0, 0, 0, 0, 1]]))
        self.assertEqual([str(machine.b), str(machine.c), str(machine.d)],
                         ["[0; 0; 0; 1; 0; 0]", "[0 0 0 1/2 1 0]", "[0]"])

    def test_kept_cells(self):
        give = ("give", "y", 0)
        for instructions, states in (
            ([give], 1), ([("put", 0, Ratio(0)), give], 0), ([("put", 0, HALF), give], 1), ([give, ("put", 0, HALF)], 2),
            ([("sum", 0, ()), give], 0), ([("sum", 0, ((Ratio(0), 0),)), give], 1), ([("sum", 0, ((ONE, 1),)), give], 1),
            ([("put", 1, HALF), ("put", 0, Ratio(0)), give], 1), ([("put", 1, Ratio(0)), ("sum", 0, ((ONE, 1),)), give], 0),
        ):
            with self.subTest(instructions=instructions):
                machine = machine_of_code(Code([], [("y", 1)], 3, [], instructions))
                self.assertEqual(machine.size(), states)

    def test_lanes(self):
        code = Code([("u", 2), ("v", 1)], [("y", 1), ("z", 2)], 3, [], [
            ("take", 0, "u"), ("take", 1, "v"), ("take", 2, "u"), ("give", "z", 1), ("give", "y", 2), ("give", "z", 0)])
        machine = machine_of_code(code)
        self.assertEqual([machine.ins, machine.outs, str(machine.d)], [(2, 1), (1, 2), "[0 1 0; 0 0 1; 1 0 0]"])

    def test_by_chance(self):
        chance = random.Random(411)
        for _ in range(150):
            code = random_code(chance)
            machine = machine_of_code(code)
            columns = random_columns(chance, machine, 5)
            ins, first = {}, 0
            for name, many in code.ins:
                ins[name] = [item for column in columns for item in column[first:first + many]]
                first += many
            told, outs, first = machine.run(columns), run_code(code, ins, 5), 0
            for name, many in code.outs:
                self.assertEqual([item for turn in told for item in turn[first:first + many]], outs[name])
                first += many
            self.assertEqual(machine, machine_of_code(code=code))

    def test_wrong_inputs(self):
        self.each_bad(machine_of_code)


class Same(Case):
    def test_names_in_another_order(self):
        one = Code([("u", 1), ("v", 1)], [("y", 1), ("z", 1)], 2, [], [
            ("take", 0, "u"), ("take", 1, "v"), ("give", "y", 0), ("give", "z", 1)])
        other = Code([("v", 1), ("u", 1)], [("z", 1), ("y", 1)], 1, [], [
            ("take", 0, "v"), ("give", "z", 0), ("take", 0, "u"), ("give", "y", 0)])
        crossed = Code([("v", 1), ("u", 1)], [("z", 1), ("y", 1)], 1, [], [
            ("take", 0, "v"), ("give", "y", 0), ("take", 0, "u"), ("give", "z", 0)])
        self.assertEqual([same_codes(one, other), same_codes(other, one), code_parting(one, other)], [True, True, None])
        self.assertFalse(same_codes(one, crossed))
        self.check_parting(one, crossed)
        self.check_parting(crossed, one)
        self.assertEqual([code_parting(one, crossed)[:2], code_parting(crossed, one)[:2]], [("y", 0), ("z", 0)])

    def check_parting(self, one, other):
        out, place, ins = told = code_parting(one, other)
        self.assertEqual([type(told), type(ins), sorted(ins)], [tuple, dict, sorted(name for name, _ in one.ins)])
        self.assertTrue(all(type(items) is list and {type(item) for item in items} <= {Ratio} for items in ins.values()))
        turns = place // dict(one.outs)[out] + 1
        streams = {name: ([*ins[name], *[0] * (turns * many)])[:max(len(ins[name]), turns * many)] for name, many in one.ins}
        first, second = run_code(one, streams, turns), run_code(other, streams, turns)
        self.assertNotEqual(first[out][place], second[out][place])
        return out, place

    def test_codes_that_part_late(self):
        told = [("pull", 0, 0), ("push", 0, 0), ("give", "y", 0)]
        one = Code([], [("y", 1)], 1, [[0] * 12], told)
        other = Code([], [("y", 1)], 1, [[0] * 11 + [1]], told)
        shorter = Code([], [("y", 1)], 1, [[0] * 3], told)
        self.assertEqual([self.check_parting(one, other), code_parting(one, shorter)], [("y", 11), None])
        self.assertEqual(self.check_parting(shorter, other), ("y", 11))
        # A later item of a turn, and of several outs the one that is least for its turns.
        text, late = read_texts("text a (u -> y, z)\ny = hold 2 u\nz = hold 3 u\n"
                                "text b (u -> y, z)\nh = hold 2 u\nd, e = deal h\nf = u + g\ng = delay [0, 0, 1] g\n"
                                "y = weave d f\nz = hold 3 u\n")
        codes = [code_of(one, first_plan(one)) for one in (text, late)]
        self.assertEqual(self.check_parting(*codes), ("y", 5))

    def test_by_chance(self):
        chance = random.Random(412)
        kinds = {True: 0, False: 0}
        for _ in range(150):
            one = random_code(chance, 6)
            told = list(one.instructions)
            place = chance.randrange(len(told))
            if told[place][0] == "sum":
                told[place] = ("sum", told[place][1], ((chance.choice([ONE, HALF]), chance.randrange(one.cells)),))
            elif told[place][0] == "put":
                told[place] = ("put", told[place][1], chance.choice([ONE, HALF, Ratio(0)]))
            other = Code(one.ins[::-1], one.outs[::-1], one.cells + 1, one.rings, told)
            same = same_codes(one, other)
            kinds[same] += 1
            self.assertEqual([same_codes(other, one), code_parting(one, other) is None], [same, same])
            if same:
                ins = {name: [chance.randint(-5, 5) for _ in range(20 * many)] for name, many in one.ins}
                self.assertEqual(run_code(one, ins, 20), run_code(other, ins, 20))
            else:
                self.check_parting(one, other)
        self.assertGreater(min(kinds.values()), 10)

    def test_errors(self):
        others = [
            Code([], [("y", 1)], 3, [], [("give", "y", 0)]),
            Code([("v", 1)], [("y", 1)], 3, [], [("take", 0, "v"), ("give", "y", 0)]),
            Code([("u", 2)], [("y", 1)], 3, [], [("take", 0, "u"), ("take", 0, "u"), ("give", "y", 0)]),
            Code([("u", 1)], [("z", 1)], 3, [], [("take", 0, "u"), ("give", "z", 0)]),
            Code([("u", 1)], [("y", 2)], 3, [], [("take", 0, "u"), ("give", "y", 0), ("give", "y", 0)]),
            Code([("u", 1)], [("y", 1), ("z", 1)], 3, [], [("take", 0, "u"), ("give", "y", 0), ("give", "z", 0)]),
        ]
        for other in others:
            for call in (same_codes, code_parting):
                self.raises(Unlike, lambda: call(loop(), other))
                self.raises(Unlike, lambda: call(other, loop()))

    def test_wrong_inputs(self):
        for call in (same_codes, code_parting):
            self.each_bad(lambda value: call(value, loop()))
            self.each_bad(lambda value: call(loop(), value))
            self.bad("one", lambda: call("one", "other"))
            self.assertEqual(call(one=loop(), other=loop()), call(loop(), loop()))
        self.assertEqual(loop().instructions, TOLD)


if __name__ == "__main__":
    unittest.main()
