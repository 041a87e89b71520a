"""[4], [5], [28], [87]: needs of items, and texts that live or stand still."""

import random
import unittest

from allstreams.errors import TooMany, Unknown, Unpaced
from allstreams.needs import lives, needs_of, standing_ring
from allstreams.paces import paces
from allstreams.ratios import Ratio
from allstreams.reader import read_texts
from allstreams.wiring import Text
from tests.helpers import STRANGE, Case
from tests.random_texts import paced_text
from tests.streams_oracle import Oracle, Ring

BOXES = read_texts("""
text all (u -> y, p0, p1, p2)
s = 2*u + 0*v + u
v = delay [1, 2] s
c = source [3, 4, 5]
t = thin 3 2 u
x = stretch 3 t
h = hold 3 t
p0, p1, p2 = deal u
w = weave p0 t p0
y = s + v + c + x + h + w
""")[0]

ODD = read_texts("text odd (u -> y)\nh = hold 2 u\ny = u + h")[0]
LONG = read_texts("text long (u -> y)\na = hold 60 u\nb = hold 3 a\ny = thin 60 1 b")[0]


def one_text(lines, ins="u", outs="y"):
    return read_texts(f"text a ({ins} -> {outs})\n{lines}")[0]


class NeedsOf(Case):
    def test_each_box(self):
        for name, place, needed in [
            ("u", 0, []), ("u", 7, [("u", 6)]),
            ("s", 0, [("u", 0), ("v", 0)]), ("s", 4, [("s", 3), ("u", 4), ("v", 4)]),
            ("v", 0, []), ("v", 1, [("v", 0)]), ("v", 2, [("s", 0), ("v", 1)]), ("v", 9, [("s", 7), ("v", 8)]),
            ("c", 0, []), ("c", 5, [("c", 4)]),
            ("t", 0, [("u", 2)]), ("t", 3, [("t", 2), ("u", 11)]),
            ("x", 0, [("t", 0)]), ("x", 1, [("x", 0)]), ("x", 6, [("t", 2), ("x", 5)]),
            ("h", 0, [("t", 0)]), ("h", 1, [("h", 0), ("t", 0)]), ("h", 5, [("h", 4), ("t", 1)]),
            ("p0", 0, [("u", 0)]), ("p1", 2, [("p1", 1), ("u", 7)]), ("p2", 1, [("p2", 0), ("u", 5)]),
            ("w", 0, [("p0", 0)]), ("w", 4, [("t", 1), ("w", 3)]), ("w", 5, [("p0", 1), ("w", 4)]),
            ("y", 0, [("c", 0), ("h", 0), ("s", 0), ("v", 0), ("w", 0), ("x", 0)]),
        ]:
            with self.subTest(name=name, place=place):
                self.assertEqual(needs_of(BOXES, name, place), needed)

    def test_far_places(self):
        far = 10 ** 50
        self.assertEqual(needs_of(BOXES, "t", far), [("t", far - 1), ("u", 3 * far + 2)])
        self.assertEqual(needs_of(BOXES, "h", far), [("h", far - 1), ("t", far // 3)])
        self.assertEqual(needs_of(BOXES, "u", far), [("u", far - 1)])
        self.assertEqual(needs_of(BOXES, "v", far), [("s", far - 2), ("v", far - 1)])

    def test_names_are_compared_as_strings(self):
        text = one_text("w.10 = u\nw.9 = u\ny = w.9 + w.10 + w.9")
        self.assertEqual(needs_of(text, "y", 1), [("w.10", 1), ("w.9", 1), ("y", 0)])

    def test_a_delay_of_itself_and_a_weave_of_itself(self):
        self.assertEqual(needs_of(one_text("d = delay [1] d\ny = d + u"), "d", 1), [("d", 0)])
        stuck = one_text("w = weave v u\nv = thin 2 1 w", outs="w")
        self.assertEqual(needs_of(stuck, "w", 0), [("v", 0)])
        self.assertEqual(needs_of(stuck, "v", 1), [("v", 0), ("w", 3)])

    def test_as_told_by_the_document(self):
        chance = random.Random(31)
        for _ in range(150):
            text, _ = paced_text(chance)
            oracle = Oracle(text, {name: [] for name in text.ins})
            for wire in text.wires():
                for place in (0, 1, chance.randrange(2, 40)):
                    needed = oracle.needs(wire, place)
                    self.assertEqual(needs_of(text, wire, place), sorted(needed))

    def test_wrong(self):
        self.each_bad(lambda value: needs_of(value, "u", 0))
        self.each_bad(lambda value: needs_of(BOXES, value, 0), but=("x", ""))
        self.each_bad(lambda value: needs_of(BOXES, "u", value), [*STRANGE, -1])
        self.bad(None, lambda: needs_of(None, 1, -1))
        self.bad(1, lambda: needs_of(BOXES, 1, -1))
        self.bad(-1, lambda: needs_of(ODD, "q", -1))
        for name in ("q", "", "not a name", "U"):
            self.raises(Unknown, lambda: needs_of(BOXES, name, 0), name=name)
        self.raises(Unpaced, lambda: needs_of(ODD, "q", 0), at=2)
        self.raises(TooMany, lambda: needs_of(LONG, "q", 0), most=200)


class Lives(Case):
    def stuck(self, text, *some):
        """The text stands still, and these items are among those of its ring."""
        self.assertIs(lives(text), False)
        ring = standing_ring(text)
        self.assertIs(type(ring), tuple)
        self.assertEqual(len(set(ring)), len(ring))
        told = paces(text)
        for pair, behind in zip(ring, ring[1:] + ring[:1]):
            self.assertIs(type(pair), tuple)
            self.assertTrue(0 <= pair[1] < told[pair[0]])
            self.assertIn(behind, needs_of(text, *pair))
        for pair in some:
            self.assertIn(pair, ring)

    def lively(self, text):
        self.assertIs(lives(text), True)
        self.assertIsNone(standing_ring(text))

    def test_of_the_document(self):
        self.lively(one_text("w = weave u v\nv = thin 2 0 w", outs="w"))
        self.stuck(one_text("w = 0*w + u", outs="w"), ("w", 0))
        self.stuck(one_text("w = weave v u\nv = thin 2 1 w", outs="w"), ("w", 0), ("w", 1), ("v", 0))

    def test_rings(self):
        self.assertEqual(standing_ring(one_text("y = y + u")), (("y", 0),))
        self.stuck(one_text("y = a + u\na = b\nb = 0*y"), ("y", 0), ("a", 0), ("b", 0))
        self.stuck(one_text("y = weave v u\nv = thin 2 0 y"), ("y", 0), ("v", 0))
        self.stuck(one_text("h = hold 2 v\nv = thin 2 1 y\ny = h + u"))
        # No ring within the wires of one turn alone counts, but one behind an item that comes does.
        self.lively(one_text("h = stretch 2 v\nv = thin 2 0 g\ng = delay [1] y\ny = h + u"))
        self.stuck(one_text("h = stretch 2 v\nv = thin 2 0 y\ny = h + u"), ("h", 0))

    def test_delays_shorter_and_longer_than_the_turn(self):
        self.lively(one_text("y = weave u v\nv = thin 2 1 d\nd = delay [0] y"))
        self.stuck(one_text("y = weave v u\nv = thin 2 1 d\nd = delay [0] y"), ("y", 0))
        self.lively(one_text("y = weave v u\nv = thin 2 1 d\nd = delay [0, 0] y"))
        self.lively(one_text("y = u + d\nd = delay [1, 2, 3, 4, 5] y"))

    def test_texts_without_ins(self):
        self.lively(one_text("y = delay [1] y", ins=""))
        self.stuck(one_text("y = -y", ins=""), ("y", 0))
        self.lively(one_text("y = source [1, 2]", ins=""))

    def test_as_told_item_by_item(self):
        chance = random.Random(32)
        found = {True: 0, False: 0}
        for _ in range(400):
            text, told = paced_text(chance)
            oracle = Oracle(text, {name: [] for name in text.ins})
            try:
                for wire in text.wires():
                    oracle.first(wire, told[wire])
                self.lively(text)
                found[True] += 1
            except Ring:
                self.stuck(text)
                found[False] += 1
        self.assertGreater(min(found.values()), 50)

    def test_equal_calls_have_equal_results(self):
        text = one_text("w = weave v u\nv = thin 2 1 w", outs="w")
        self.assertEqual(standing_ring(text), standing_ring(text))

    def test_200_items(self):
        text = Text("a", ["u"], ["y"], [("hold", "y", 60, "u"), ("hold", "z", 60, "u"), ("hold", "x", 60, "u")] + [
            ("sum", f"s{number}", ((Ratio(1), "u"),)) for number in range(19)])
        self.assertEqual(sum(paces(text).values()), 200)
        self.lively(text)
        longer = Text("a", ["u"], ["y"], [*text.statements, ("sum", "more", ((Ratio(1), "u"),))])
        for call in (lives, standing_ring, lambda text: needs_of(text, "u", 0)):
            self.raises(TooMany, lambda: call(longer), most=200)
            self.raises(Unpaced, lambda: call(ODD), at=2)
            self.each_bad(call)


if __name__ == "__main__":
    unittest.main()
