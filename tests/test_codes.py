"""[58], [59], [113]: codes, what is wrong with them, and how they are written."""

import random
import unittest

from allstreams.codes import Code, code_text
from allstreams.errors import BadCode
from allstreams.ratios import Ratio
from tests.helpers import STRANGE, Case
from tests.random_codes import random_code

ONE, HALF = Ratio(1), Ratio(1, 2)
TOLD = (("take", 0, "u"), ("pull", 1, 0), ("sum", 2, ((ONE, 0), (HALF, 1))), ("push", 0, 2), ("give", "y", 2))


def loop(instructions=TOLD, cells=3, rings=((0, -3),)):
    return Code([("u", 1)], [("y", 1)], cells, list(rings), list(instructions))


class Codes(Case):
    def test_attributes(self):
        ins, outs, rings, told = [["u", 1]], [("y", 1)], [[0, Ratio(-3)]], list(TOLD)
        code = Code(ins, outs, 3, rings, told)
        self.assertEqual([code.ins, code.outs, code.cells], [(("u", 1),), (("y", 1),), 3])
        self.assertEqual([code.rings, code.instructions], [((Ratio(0), Ratio(-3)),), TOLD])
        for value in (code.ins, code.outs, code.rings, code.instructions, code.ins[0], code.outs[0], code.rings[0]):
            self.assertIs(type(value), tuple)
        ins[0][0] = "v"
        rings[0].append(1)
        told.clear()
        self.assertEqual(code, loop())

    def test_equality(self):
        self.assertEqual(loop(), Code((("u", 1),), (("y", 1),), 3, ((Ratio(0), -3),), TOLD))
        self.assertNotEqual(loop(), loop(cells=4))
        self.assertNotEqual(loop(), loop(rings=((0, -2),)))
        self.assertNotEqual(loop(), loop(rings=((0, -3), ())))
        self.assertNotEqual(loop(), loop([*TOLD, ("put", 0, ONE)]))
        self.assertNotEqual(loop(), TOLD)
        one, other = Code([("u", 1)], [("y", 1)], 1, [], [("take", 0, "u"), ("give", "y", 0)]), None
        self.assertNotEqual(one, other)
        self.assertNotEqual(one, Code([("v", 1)], [("y", 1)], 1, [], [("take", 0, "v"), ("give", "y", 0)]))
        self.assertNotEqual(one, Code([("u", 1)], [("z", 1)], 1, [], [("take", 0, "u"), ("give", "z", 0)]))

    def test_by_names(self):
        code = Code(ins=[], outs=[("y", 1)], cells=1, rings=[], instructions=[("give", "y", 0)])
        self.assertEqual([code.ins, code_text(code=code)], [(), "give y c0\n"])
        # A name may be that of an in and of an out.
        both = Code([("y", 1)], [("y", 1)], 1, [], [("take", 0, "y"), ("give", "y", 0)])
        self.assertEqual(both.ins, both.outs)

    def test_text(self):
        code = Code([("u", 1)], [("y", 1), ("z", 1)], 4, [[1]], [
            ("take", 0, "u"), ("put", 1, HALF), ("put", 2, Ratio(-3)), ("sum", 2, ((HALF, 0), (-ONE, 1))), ("sum", 2, ()),
            ("sum", 3, ((-HALF, 0), (ONE, 1), (Ratio(0), 3), (Ratio(-7, 3), 3))), ("pull", 3, 0), ("push", 0, 2),
            ("sum", 0, ((-ONE, 1),)), ("give", "y", 2), ("give", "z", 0)])
        self.assertEqual(code_text(code), (
            "take c0 u\nput c1 1/2\nput c2 -3\nsum c2 1/2*c0 - c1\nsum c2 0\nsum c3 -1/2*c0 + c1 + 0*c3 - 7/3*c3\npull c3 r0\n"
            "push r0 c2\nsum c0 -c1\ngive y c2\ngive z c0\n"))
        self.assertEqual(code_text(loop()), "take c0 u\npull c1 r0\nsum c2 c0 + 1/2*c1\npush r0 c2\ngive y c2\n")

    def test_wrong_arguments(self):
        def made(ins=(("u", 1),), outs=(("y", 1),), cells=3, rings=((0, -3),), told=TOLD):
            return Code(ins, outs, cells, rings, told)

        for value in (None, 5, "x", {}, True, {"u": 1}):
            self.bad(value, lambda: made(ins=value))
            self.bad(value, lambda: made(outs=value))
            self.bad(value, lambda: made(rings=value))
            self.bad(value, lambda: made(told=value))
        for value in (None, "u", ("u",), ("u", 0), ("u", -1), ("u", True), ("u", "1"), ("u", Ratio(1)), ("U", 1), (1, "u"),
                      ("u", 1, 1), ("text", 1), [], {"u": 1}, ("a" * 41, 1), (["u"], 1)):
            self.bad(value, lambda: made(ins=[("v", 1), value]))
            self.bad(value, lambda: made(outs=[("z", 1), value]))
        for value in ([("u", 1), ("u", 1)], (("u", 1), ("v", 2), ("u", 3))):
            self.bad(value, lambda: made(ins=value))
            self.bad(value, lambda: made(outs=value))
        for value in ([], ()):
            self.bad(value, lambda: made(outs=value))
        self.each_bad(lambda value: made(cells=value))
        self.bad(-1, lambda: made(cells=-1))
        for value in (None, 5, "x", {}, True, [None], [0, "1"], [True], (1.0,), [[1]]):
            self.bad(value, lambda: made(rings=[[1], value]))
        # The first wrong one is told; wrong instructions come last.
        both = [("u", 0), ("u", 0)]
        self.bad(both[0], lambda: Code(both, [], -1, 5, None))
        self.bad(-1, lambda: Code([], [("y", 1)], -1, 5, None))
        self.bad(5, lambda: Code([], [("y", 1)], 1, [5], [None]))
        for value in STRANGE:
            self.raises(BadCode, lambda: loop([value]), at=1)
        self.each_bad(code_text)

    def wrong(self, at, instructions, **told):
        self.raises(BadCode, lambda: loop(instructions, **told), at=at)

    def test_each_instruction_in_each_of_its_parts(self):
        for number, wrongs in enumerate((
            [("take", 3, "u"), ("take", -1, "u"), ("take", 0, "y"), ("take", 0, "q"), ("take", True, "u"), ("take", "0", "u"),
             ("take", 0, 0), ("take", 0), ("take", 0, "u", 0), ["take", 0, "u"], ("take", 0, ["u"]), ("take", Ratio(0), "u")],
            [("pull", 3, 0), ("pull", -1, 0), ("pull", 1, 1), ("pull", 1, -1), ("pull", 1, False), ("pull", 1, "r0"),
             ("pull", 1), ["pull", 1, 0], ("pull", None, 0)],
            [("sum", 3, ()), ("sum", 2, [(ONE, 0)]), ("sum", 2, ([ONE, 0],)), ("sum", 2, ((ONE, 3),)), ("sum", 2, ((1, 0),)),
             ("sum", 2, ((ONE, True),)), ("sum", 2, ((ONE, 0, 0),)), ("sum", 2, (ONE, 0)), ("sum", 2, None), ("sum", 2),
             ("sum", 2, ((ONE, -1),)), ["sum", 2, ()], ("sum", 2, (((ONE, 0), (ONE, 3)))), ("sum", True, ()),
             ("sum", 2, ((0.5, 0),)), ("sum", 2, {})],
            [("push", 1, 2), ("push", -1, 2), ("push", 0, 3), ("push", 0, -1), ("push", False, 2), ("push", 0, True),
             ("push", 0), ["push", 0, 2], ("push", "r0", 2)],
            [("give", "u", 2), ("give", "q", 2), ("give", 0, 2), ("give", "y", 3), ("give", "y", -1), ("give", "y", True),
             ("give", "y"), ["give", "y", 2], ("give", ["y"], 2)],
        ), start=1):
            for value in wrongs:
                with self.subTest(value=value):
                    self.wrong(number, [*TOLD[:number - 1], value, *TOLD[number:]])
        for value in (("put", 3, ONE), ("put", -1, ONE), ("put", 0, 1), ("put", 0, True), ("put", 0, None), ("put", 0),
                      ["put", 0, ONE], ("put", 0, ONE, 0), ("put", "0", ONE), ("set", 0, ONE), (), "put", (5, 0, ONE),
                      ("PUT", 0, ONE), (("put",), 0, ONE), None):
            self.wrong(6, [*TOLD, value])
            self.wrong(1, [value, *TOLD])

    def test_rings(self):
        # Pulled empty: at this moment, not at the end.
        empty = [("take", 0, "u"), ("pull", 1, 0), ("push", 0, 0), ("give", "y", 1)]
        self.wrong(2, empty, rings=((),))
        self.assertEqual(loop([empty[0], empty[2], empty[1], empty[3]], rings=((),)).rings, ((),))
        self.wrong(4, [empty[0], empty[1], empty[1], empty[1], *[empty[2]] * 3, empty[3]])
        # Longer or shorter at the end.
        self.wrong(7, [*TOLD, ("push", 0, 1)])
        self.wrong(5, [told for told in TOLD if told[0] != "push"])
        self.wrong(5, [told for told in TOLD if told[0] != "pull"])
        self.wrong(4, [told for told in TOLD if told[0] not in ("pull", "push")] + [("give", "y", 1)])
        self.assertEqual(loop([told for told in TOLD if told[0] not in ("pull", "push")]).rings, ((Ratio(0), Ratio(-3)),))

    def test_ins_and_outs(self):
        take, give = ("take", 0, "u"), ("give", "y", 0)
        self.wrong(2, [take, take, give])
        self.wrong(3, [take, give, give])
        self.wrong(2, [take])
        self.wrong(2, [give])
        self.wrong(1, [])
        for many, fine in ((1, False), (2, True), (3, False)):
            call = lambda: Code([("u", 2)], [("y", 2)], 1, [], [take] * many + [give] * 2)
            if fine:
                self.assertEqual(call().ins, (("u", 2),))
            else:
                self.raises(BadCode, call, at=4 if many == 1 else 3)
        # The first wrong one counts, whatever comes behind it.
        self.wrong(3, [take, give, None, take, ("pull", 9, 9)])

    def test_by_chance(self):
        chance = random.Random(381)
        for _ in range(200):
            code = random_code(chance)
            again = Code(code.ins, code.outs, code.cells, code.rings, code.instructions)
            self.assertEqual([again, code_text(again)], [code, code_text(code)])
            self.assertEqual(code_text(code).count("\n"), len(code.instructions))
            for number in range(len(code.instructions)):
                told = list(code.instructions)
                del told[number]
                if code.instructions[number][0] not in ("put", "sum"):
                    with self.assertRaises(BadCode):
                        Code(code.ins, code.outs, code.cells, code.rings, told)


if __name__ == "__main__":
    unittest.main()
