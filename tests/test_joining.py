"""[36], [96]: texts named anew, behind each other, and fed back."""

import random
import unittest

from allstreams.errors import StandsStill, StreamError, Taken, TooMany, Unknown
from allstreams.joining import behind, fed_back, renamed
from allstreams.likeness import alike
from allstreams.needs import lives
from allstreams.printer import text_text
from allstreams.ratios import Ratio
from allstreams.reader import read_texts
from allstreams.turns import run_turns
from allstreams.wiring import Text
from tests.helpers import STRANGE, Case, fraction, random_ratio
from tests.random_texts import living_text
from tests.streams_oracle import Oracle

ECHO, HALF, LATE = read_texts(
    "text echo (u -> y)\ny = u + 1/2*d\nd = delay [0, -3] y\ntext half (x -> z)\nz = 1/2*x\n"
    "text late (u -> y)\ny = u + 1/2*d\nd = delay [0, 0] y\n")
ALL = read_texts("""text all (u, v -> y, e, w)
y = u - 2*v + u
d = delay [1, 2] y
s = source [3]
t = thin 2 1 y
h = hold 2 t
x = stretch 2 t
e, f = deal h
w = weave t e t f
q = x + s + d""")[0]


class Renamed(Case):
    def test_all_boxes(self):
        names = {name: f"new.{name}" for name in ALL.wires()}
        self.assertEqual(text_text(renamed(ALL, names)), """text all (new.u, new.v -> new.y, new.e, new.w)
new.y = new.u - 2*new.v + new.u
new.d = delay [1, 2] new.y
new.s = source [3]
new.t = thin 2 1 new.y
new.h = hold 2 new.t
new.x = stretch 2 new.t
new.e, new.f = deal new.h
new.w = weave new.t new.e new.t new.f
new.q = new.x + new.s + new.d
""")

    def test_some_none_and_swapped(self):
        self.assertEqual(renamed(ALL, {}), ALL)
        self.assertEqual(renamed(ALL, {"u": "u"}), ALL)
        self.assertEqual(text_text(renamed(HALF, {"x": "z", "z": "x"})), "text half (z -> x)\nx = 1/2*z\n")
        self.assertEqual(renamed(renamed(ALL, {"u": "v", "v": "u", "y": "e", "e": "y"}),
                                 {"u": "v", "v": "u", "y": "e", "e": "y"}), ALL)

    def test_taken(self):
        self.raises(Taken, lambda: renamed(HALF, {"x": "z"}), name="z")
        self.raises(Taken, lambda: renamed(ALL, {"u": "q"}), name="q")
        # The first wire that is called as one ahead of it: d, called as y now, comes ahead of the others.
        self.raises(Taken, lambda: renamed(ALL, {"q": "w", "d": "y", "w": "u"}), name="y")
        self.raises(Taken, lambda: renamed(ALL, {"y": "q", "t": "k", "h": "k"}), name="k")
        self.raises(Taken, lambda: renamed(ALL, {"u": "k", "v": "k", "y": "u", "d": "u"}), name="k")

    def test_unknown(self):
        self.raises(Unknown, lambda: renamed(ALL, {"u": "y", "zz": "k", "a": "k", "b": "k"}), name="a")
        self.raises(Unknown, lambda: renamed(ALL, {"no name": "k"}), name="no name")
        self.raises(Unknown, lambda: renamed(ALL, {"": "k"}), name="")

    def test_wrong(self):
        self.each_bad(lambda value: renamed(value, {}))
        self.each_bad(lambda value: renamed(ALL, value), [value for value in STRANGE if value != {}])
        for names in ({"u": 1}, {1: "u"}, {"u": "U"}, {"u": "text"}, {"u": None}, {"zz": ""}, {("u",): "k"},
                      {"u": "x" * 41}, {"u": "k", True: "l"}):
            self.bad(names, lambda: renamed(ALL, names))
        self.bad(None, lambda: renamed(None, None))

    def test_nothing_is_changed(self):
        names = {"u": "k"}
        text = renamed(ALL, names)
        self.assertEqual([names, ALL.ins, text.ins], [{"u": "k"}, ("u", "v"), ("k", "v")])
        self.assertEqual(renamed(ALL, names), text)


class Behind(Case):
    def test_of_the_document(self):
        text = behind(ECHO, HALF, {"x": "y"})
        self.assertEqual(text_text(text), "text half (u -> z)\ny = u + 1/2*d\nd = delay [0, -3] y\nz = 1/2*y\n")

    def test_some_ins_tied(self):
        second = renamed(ALL, {name: f"b.{name}" for name in ALL.wires()})
        text = behind(ECHO, second, {"b.v": "d"})
        self.assertEqual([text.name, text.ins, text.outs], ["all", ("u", "b.u"), ("b.y", "b.e", "b.w")])
        self.assertEqual(text.statements[:2], ECHO.statements)
        self.assertEqual(text.statements[2], ("sum", "b.y", ((Ratio(1), "b.u"), (Ratio(-2), "d"), (Ratio(1), "b.u"))))
        both = behind(ECHO, second, {"b.v": "y", "b.u": "y"})
        self.assertEqual([both.ins, len(both.statements)], [("u",), 11])

    def test_ties_to_ins_and_names_of_tied_ins(self):
        # The tied in may be called as a wire of the first; its name is gone.
        twice = read_texts("text twice (y -> z)\nz = 2*y\nw = delay [0] z")[0]
        self.assertEqual(text_text(behind(ECHO, twice, {"y": "u"})),
                         "text twice (u -> z)\ny = u + 1/2*d\nd = delay [0, -3] y\nz = 2*u\nw = delay [0] z\n")
        self.raises(Taken, lambda: behind(ECHO, renamed(twice, {"w": "d"}), {"y": "y"}), name="d")

    def test_unknown_and_taken(self):
        two = read_texts("text two (p, q -> r)\nr = p + q")[0]
        self.raises(Unknown, lambda: behind(ECHO, two, {"z": "y", "a": "y", "p": "zz"}), name="a")
        self.raises(Unknown, lambda: behind(ECHO, two, {"r": "y"}), name="r")
        self.raises(Unknown, lambda: behind(ECHO, two, {"p": "zz", "q": "c"}), name="c")
        self.raises(Unknown, lambda: behind(ECHO, two, {"p": "p"}), name="p")
        self.raises(Unknown, lambda: behind(ECHO, two, {"": "y"}), name="")
        for names, name in [({"q": "y", "r": "d"}, "y"), ({"r": "d"}, "d"), ({"q": "u", "r": "y"}, "u")]:
            self.raises(Taken, lambda: behind(ECHO, renamed(two, names), {"p": "d"}), name=name)
        self.raises(Unknown, lambda: behind(ECHO, renamed(two, {"r": "d"}), {"p": "no"}), name="no")

    def test_60_boxes(self):
        def chain(many, letter):
            rows = [("sum", f"{letter}{number + 1}", ((Ratio(1), f"{letter}{number}"),)) for number in range(many)]
            return Text("chain", [f"{letter}0"], [f"{letter}{many}"], rows)
        text = behind(chain(30, "a"), chain(30, "b"), {"b0": "a30"})
        self.assertEqual([len(text.statements), text.ins, text.outs], [60, ("a0",), ("b30",)])
        self.raises(TooMany, lambda: behind(chain(30, "a"), chain(31, "b"), {"b0": "a30"}), most=60)
        self.raises(Taken, lambda: behind(chain(40, "a"), chain(40, "a"), {"a0": "a30"}), name="a1")

    def test_wrong(self):
        self.each_bad(lambda value: behind(value, HALF, {"x": "y"}))
        self.each_bad(lambda value: behind(ECHO, value, {"x": "y"}))
        self.each_bad(lambda value: behind(ECHO, HALF, value))
        for ties in ({"x": 1}, {1: "y"}, {"x": None}, {"x": ["y"]}, {"x": "y", 2: "y"}, {}):
            self.bad(ties, lambda: behind(ECHO, HALF, ties))
        self.bad(1, lambda: behind(1, 2, 3))
        self.bad(2, lambda: behind(ECHO, 2, 3))

    def test_it_does_what_both_do(self):
        chance = random.Random(131)
        done = 0
        while done < 60:
            first, told = living_text(chance, range(1, 5))
            second, _ = living_text(chance, range(1, 5))
            second = renamed(second, {name: f"b.{name}" for name in second.wires()})
            ties = {second.ins[0]: chance.choice(first.wires())}
            text = behind(first, second, ties)
            ins = {name: [random_ratio(chance) for _ in range(60)] for name in text.ins}
            oracle = Oracle(first, ins)
            given = {name: ins[name] for name in second.ins if name not in ties}
            given[second.ins[0]] = [Ratio(item.numerator, item.denominator)
                                    for item in oracle.first(ties[second.ins[0]], 40)]
            for out in text.outs:
                self.assertEqual(Oracle(text, ins).first(out, 3), Oracle(second, given).first(out, 3))
            done += 1


class FedBack(Case):
    def test_of_the_document(self):
        self.assertEqual(text_text(fed_back(LATE, "u", "d")), "text late (-> y)\ny = d + 1/2*d\nd = delay [0, 0] y\n")

    def test_ins_that_stay(self):
        text = fed_back(ALL, "u", "v")
        self.assertEqual([text.ins, text.outs, text.name], [("v",), ALL.outs, "all"])
        self.assertEqual(text.statements[0], ("sum", "y", ((Ratio(1), "v"), (Ratio(-2), "v"), (Ratio(1), "v"))))
        self.assertEqual(text.statements[1:], ALL.statements[1:])

    def test_it_may_stand_still(self):
        self.assertFalse(lives(fed_back(LATE, "u", "y")))
        self.assertTrue(lives(fed_back(LATE, "u", "d")))
        self.raises(StandsStill, lambda: run_turns(fed_back(LATE, "u", "y"), {}, 1))

    def test_paces_may_be_gone(self):
        text = fed_back(read_texts("text a (u -> y)\nt = thin 2 0 u\ny = t")[0], "u", "y")
        self.assertEqual(text.ins, ())

    def test_errors(self):
        self.raises(Unknown, lambda: fed_back(LATE, "y", "d"), name="y")
        self.raises(Unknown, lambda: fed_back(LATE, "no", "neither"), name="no")
        self.raises(Unknown, lambda: fed_back(LATE, "u", "no"), name="no")
        self.raises(Unknown, lambda: fed_back(LATE, "", "u"), name="")
        wire = "".join(["u"])
        self.bad(wire, lambda: fed_back(LATE, "u", wire))
        self.each_bad(lambda value: fed_back(value, "u", "d"))
        self.each_bad(lambda value: fed_back(LATE, value, "d"), but=("x", ""))
        self.each_bad(lambda value: fed_back(LATE, "u", value), but=("x", ""))
        self.bad(1, lambda: fed_back(LATE, 1, 2))
        self.bad(2, lambda: fed_back(LATE, "no", 2))

    def test_what_is_fed_back_is_what_is_given(self):
        chance = random.Random(132)
        done = 0
        while done < 40:
            text, told = living_text(chance, range(1, 5))
            wire = chance.choice(text.wires()[len(text.ins):])
            try:
                whole = fed_back(text, text.ins[0], wire)
                if not lives(whole):
                    continue
            except StreamError:
                continue
            ins = {name: [random_ratio(chance) for _ in range(60)] for name in whole.ins}
            oracle = Oracle(whole, ins)
            items = [Ratio(item.numerator, item.denominator) for item in oracle.first(wire, 40)]
            for out in text.outs:
                self.assertEqual(Oracle(text, {**ins, text.ins[0]: items}).first(out, 3), oracle.first(out, 3))
            done += 1


class Surroundings(Case):
    def test_alike_texts_in_each_others_place(self):
        one, other = read_texts("text a (x -> z)\nz = 2*x\ntext b (x -> z)\nk = x\nz = k + x\n")
        self.assertTrue(alike(one, other))
        self.assertTrue(alike(behind(ECHO, one, {"x": "y"}), behind(ECHO, other, {"x": "y"})))
        last = renamed(ECHO, {"u": "g", "y": "h", "d": "k.d"})
        self.assertTrue(alike(behind(one, last, {"g": "z"}), behind(other, last, {"g": "z"})))
        self.assertFalse(alike(behind(ECHO, one, {"x": "y"}), behind(ECHO, HALF, {"x": "y"})))

    def test_one_may_live_where_the_other_stands_still(self):
        one, other = read_texts("text a (u, v -> y, z)\ny = u\nz = v\ntie = u + v\n"
                                 "text b (u, v -> y, z)\ny = u + 0*v\nz = v\n")
        self.assertTrue(alike(one, other))
        self.assertEqual([lives(fed_back(text, "v", "y")) for text in (one, other)], [True, False])
        self.assertEqual([fraction(item) for item in run_turns(fed_back(one, "v", "y"), {"u": [1]}, 1)["z"]], [1])


if __name__ == "__main__":
    unittest.main()
