"""[61], [114]: codes made of texts by their plans."""

import random
import unittest

from allstreams.boxsteps import Turn
from allstreams.codes import Code
from allstreams.coderuns import run_code
from allstreams.codeturns import machine_of_code, same_codes
from allstreams.errors import StandsStill, TooMany, Unpaced
from allstreams.likeness import paper_of
from allstreams.making import code_of
from allstreams.naming import machine_of
from allstreams.paces import paces, steps_of_turn
from allstreams.plans import first_plan, is_plan
from allstreams.ratios import Ratio
from allstreams.reader import read_texts
from allstreams.turns import run_turns
from tests.helpers import STRANGE, Case
from tests.random_texts import living_text


def text_told(lines):
    return read_texts("text a " + lines)[0]


def random_plan(chance, text):
    """Any plan of the text."""
    turn = Turn(text, paces(text), steps_of_turn(text))
    standing, plan = turn.noughts(), []
    while not turn.is_done(standing):
        box = chance.choice([box for box in range(len(standing)) if turn.can_go(box, standing)])
        standing[box] += 1
        plan.append(box + 1)
    return plan


def sums_in(code):
    """The ratios of the sums with a term, in order."""
    return [tuple(ratio for ratio, _ in told[2]) for told in code.instructions if told[0] == "sum" and told[2]]


class Making(Case):
    def check(self, text, plan, chance, turns=5):
        told = paces(text)
        code = code_of(text, plan)
        self.assertIs(type(code), Code)
        self.assertEqual(code.ins, tuple((name, told[name]) for name in text.ins))
        self.assertEqual(code.outs, tuple((name, told[name]) for name in text.outs))
        self.assertEqual(code.rings, tuple(row[2] for row in text.statements if row[0] in ("delay", "source")))
        boxes = [text.statements[box - 1] for box in plan]
        self.assertEqual(sums_in(code), [tuple(ratio for ratio, _ in row[2]) for row in boxes if row[0] == "sum"])
        ins = {name: [chance.randint(-9, 9) for _ in range(turns * told[name])] for name in text.ins}
        self.assertEqual(run_code(code, ins, turns), run_turns(text, ins, turns))
        return code

    def test_each_box(self):
        chance = random.Random(391)
        for lines in ("(u -> y)\ny = u - 1/2*u", "(u -> y)\ny = delay [1, 2, 3] u", "(-> y)\ny = source [1, 2, 3]",
                      "(u -> y)\ny = thin 3 1 u", "(u -> y)\ny = stretch 3 u", "(u -> y)\ny = hold 3 u",
                      "(u -> z, y)\ny, z = deal u", "(u, v -> y)\ny = weave u v", "(u -> y)\ny = weave u u",
                      "(u -> y)\ny = delay [1] u\nz = thin 4 0 y", "(u -> y, z)\ny = delay [1, 2] z\nz = hold 2 u",
                      "(u -> y)\nd = delay [7] y\ny = weave u d2\nd2 = thin 2 0 d", "(-> y)\ny = delay [5] y",
                      "(-> y)\nw = weave y v\ny = source [1, 2, 3]\nv = source [-1]"):
            text = text_told(lines)
            self.check(text, first_plan(text), chance)
            self.check(text, random_plan(chance, text), chance)

    def test_delays_within_a_turn(self):
        """The told items are fewer than those of a turn, so what is pushed is pulled in the same turn."""
        chance = random.Random(392)
        text = text_told("(u -> y)\nd = delay [9] h\nh = hold 4 u\ny = d + h")
        for _ in range(5):
            code = self.check(text, random_plan(chance, text), chance)
            self.assertEqual(len([told for told in code.instructions if told[0] == "pull"]), 4)

    def test_sums_in_the_order_of_the_plan(self):
        chance = random.Random(393)
        text = text_told("(u -> y, z)\ny = 2*u + 3*u\nz = 5*u - 7*h\nh = u")
        for plan, order in (([1, 3, 2], [(2, 3), (1,), (5, -7)]), ([3, 2, 1], [(1,), (5, -7), (2, 3)]),
                            ([3, 1, 2], [(1,), (2, 3), (5, -7)])):
            code = self.check(text, plan, chance)
            self.assertEqual(sums_in(code), [tuple(Ratio(ratio) for ratio in told) for told in order])

    def test_by_chance(self):
        chance = random.Random(394)
        for _ in range(60):
            text, _ = living_text(chance)
            plan = random_plan(chance, text)
            code = self.check(text, plan, chance, 4)
            self.assertIsNotNone(paper_of(machine_of(text), machine_of_code(code)))
            self.assertTrue(same_codes(code, code_of(text, first_plan(text))))

    def test_no_plans(self):
        text = text_told("(u -> y)\nh = hold 2 u\nz = thin 2 1 h\ny = z + u")
        plan = first_plan(text)
        self.assertEqual(plan, [1, 1, 2, 2, 3])
        for wrong in ([], [1], [1, 1, 2, 2], [2, 1, 1, 2, 3], [1, 1, 2, 2, 3, 3], [1, 1, 2, 2, 4], [0, 1, 1, 2, 2, 3],
                      [1, 1, 2, 3, 2], plan + plan, [-1, 1, 2, 2, 3]):
            self.assertFalse(is_plan(text, wrong))
            self.bad(wrong, lambda: code_of(text, wrong))
        self.assertEqual(code_of(text=text, plan=tuple(plan)), code_of(text, plan))

    def test_errors_and_wrong_inputs(self):
        odd, stuck, long, plain = read_texts(
            "text odd (u -> y)\nh = hold 2 u\ny = u + h\ntext stuck (x -> w)\nw = weave v x\nv = thin 2 1 w\n"
            "text long (u -> y)\na = hold 15 u\ny = hold 15 a\ntext plain (u -> y)\ny = u\n")
        self.raises(Unpaced, lambda: code_of(odd, [7]), at=2)
        self.raises(TooMany, lambda: code_of(long, [7]), most=200)
        self.raises(StandsStill, lambda: code_of(stuck, [7]))
        self.each_bad(lambda value: code_of(value, [1]))
        for value in (None, 5, "x", {}, True):
            self.bad(value, lambda: code_of(odd, value))
        for value in STRANGE:
            self.bad(value, lambda: code_of(odd, [1, value]))
        self.bad("text", lambda: code_of("text", "plan"))
        plan = [1]
        code_of(plain, plan)
        self.assertEqual([plan, code_of(plain, plan) == code_of(plain, plan)], [[1], True])


class Sizes(Case):
    """[123]."""

    def test_60_boxes_and_3600_steps(self):
        chain = "\n".join(f"w{number} = 2*w{number - 1}" if number else "w0 = u" for number in range(60))
        text = text_told(f"(u -> w59)\n{chain}")
        self.assertEqual(run_code(code_of(text, first_plan(text)), {"u": [1] * 400}, 400)["w59"], [Ratio(2 ** 59)] * 400)
        fan = "\n".join(f"y{number} = thin 60 {number} u" for number in range(60))
        text = text_told(f"(u -> y0, y59)\n{fan}")
        code = code_of(text, first_plan(text))
        self.assertEqual(run_code(code, {"u": list(range(60))}, 1), {"y0": [Ratio(0)], "y59": [Ratio(59)]})


if __name__ == "__main__":
    unittest.main()
