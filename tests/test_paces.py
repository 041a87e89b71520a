"""[6], [27], [29], [86]: paces, items and steps of a turn."""

import random
import unittest
from fractions import Fraction
from math import gcd, lcm

from allstreams.errors import TooMany, Unpaced
from allstreams.paces import items_of_turn, paces, steps_of_turn
from allstreams.ratios import Ratio
from allstreams.reader import read_texts
from allstreams.wiring import Text
from tests.helpers import STRANGE, Case
from tests.random_texts import random_text

ONE = Ratio(1)


def text_of(lines, ins="u", outs="y"):
    return read_texts(f"text a ({ins} -> {outs})\n{lines}")[0]


def equations(statement):
    """[6]: triples (wire, many, other) for pace of wire = many * pace of other."""
    word, given, taken = statement[0], statement[1], statement[-1]
    if word == "sum":
        return [(given, 1, name) for _, name in taken]
    if word == "delay":
        return [(given, 1, taken)]
    if word == "thin":
        return [(taken, statement[2], given)]
    if word in ("stretch", "hold"):
        return [(given, statement[2], taken)]
    if word == "deal":
        return [(taken, len(given), name) for name in given]
    if word == "weave":
        return [(given, len(taken), name) for name in taken]
    return []


def solved(statements, wires):
    """Paces by going from wire to wire, a part that hangs together after the other; None if there are none."""
    rows = [row for statement in statements for row in equations(statement)]
    found = {}
    for start in wires:
        if start in found:
            continue
        found[start] = Fraction(1)
        waiting = [start]
        while waiting:
            here = waiting.pop()
            for wire, many, other in rows:
                if here == wire and other not in found:
                    found[other] = found[here] / many
                    waiting.append(other)
                if here == other and wire not in found:
                    found[wire] = found[here] * many
                    waiting.append(wire)
    return found if all(found[wire] == many * found[other] for wire, many, other in rows) else None


class Paces(Case):
    def told(self, text, expected):
        self.assertEqual(paces(text), expected)
        self.assertEqual(list(paces(text)), list(text.wires()))
        self.assertEqual(items_of_turn(text), sum(expected.values()))

    def test_each_box(self):
        for lines, expected in (
            ("y = u", {"u": 1, "y": 1}),
            ("y = 0*u + y", {"u": 1, "y": 1}),
            ("y = delay [1, 2, 3] u", {"u": 1, "y": 1}),
            ("y = thin 5 2 u", {"u": 5, "y": 1}),
            ("y = stretch 4 u", {"u": 1, "y": 4}),
            ("y = hold 60 u", {"u": 1, "y": 60}),
            ("y, z, w = deal u", {"u": 3, "y": 1, "z": 1, "w": 1}),
            ("y = weave u u u u", {"u": 1, "y": 4}),
        ):
            self.told(text_of(lines), expected)
        self.told(text_of("y = source [1, 2, 3]", ""), {"y": 1})

    def test_several_boxes(self):
        self.told(text_of("w = thin 2 1 u\ny = hold 3 w"), {"u": 2, "w": 1, "y": 3})
        self.told(text_of("w = stretch 2 u\ny = thin 3 1 w"), {"u": 3, "w": 6, "y": 2})
        self.told(text_of("s = source [1]\ny = weave u w\nw = thin 2 0 s"), {"u": 1, "s": 2, "y": 2, "w": 1})
        self.told(text_of("y = weave w v v\nw = thin 3 1 y", "v"), {"v": 1, "y": 3, "w": 1})
        self.told(text_of("a = stretch 4 u\nb = thin 6 0 a\ny, z = deal b"), {"u": 3, "a": 12, "b": 2, "y": 1, "z": 1})

    def test_great_paces(self):
        rows = "".join(f"w{number + 1} = hold 60 w{number}\n" for number in range(40))
        text = text_of(rows + "y = w40", "w0")
        self.assertEqual(paces(text)["y"], 60 ** 40)
        self.assertEqual(items_of_turn(text), sum(60 ** number for number in range(41)) + 60 ** 40)
        rows = "".join(f"w{number + 1} = thin {2 + number} 1 w{number}\n" for number in range(20))
        self.assertEqual(list(paces(text_of(rows + "y = w20", "w0")).values())[-1], 1)

    def test_texts_that_cannot_be_paced(self):
        for lines, at in (
            ("y = thin 2 0 y\nz = y + u", 1),
            ("y = stretch 3 y\nz = y + u", 1),
            ("y = hold 2 y\nz = y + u", 1),
            ("y = weave y u", 1),
            ("y = weave u y", 1),
            ("y, z = deal y\nw = u + z", 1),
            ("y, z = deal z\nw = u + z", 1),
            ("h = hold 2 u\ny = u + h", 2),
            ("y = u + h\nk = u\nh = hold 2 u\nj = thin 2 0 j2\nj2 = u\nj3 = j + j2", 3),
            ("a = u\nb = thin 2 0 a\nc = b\nd = c\ny = hold 3 d\ne = y + a\nf = thin 2 0 e", 6),
            ("y = weave a b\na = thin 2 0 u\nb = u", 3),
            ("a, b, c = deal u\nd = weave a b\ny = d + u", 3),
        ):
            text = text_of(lines)
            with self.subTest(lines=lines):
                for call in (paces, items_of_turn, steps_of_turn):
                    self.raises(Unpaced, lambda: call(text), at=at)

    def test_the_least_number(self):
        # Boxes 2 and 4 do not go together, nor do 1 and 3: 3 comes first.
        text = text_of("a = thin 2 0 u\nb = thin 2 0 v\nc = a + u\nd = b + v\ny = a + b", "u, v")
        self.raises(Unpaced, lambda: paces(text), at=3)
        # Parts that do not hang together yet.
        text = text_of("a = hold 2 b\nb = hold 2 c\nd = hold 3 e\ne = hold 3 f\nf = source [1]\nc = u\ng = a + d\ny = e + b")
        self.raises(Unpaced, lambda: paces(text), at=8)

    def test_by_going_from_wire_to_wire(self):
        chance = random.Random(86)
        paced = unpaced = 0
        for _ in range(400):
            text = random_text(chance, range(1, 10))
            wires = text.wires()
            found = solved(text.statements, wires)
            with self.subTest(statements=text.statements):
                if found is None:
                    unpaced += 1
                    at = next(at for at in range(1, 11) if solved(text.statements[:at], wires) is None)
                    self.raises(Unpaced, lambda: paces(text), at=at)
                    self.raises(Unpaced, lambda: items_of_turn(text), at=at)
                    self.raises(Unpaced, lambda: steps_of_turn(text), at=at)
                    continue
                paced += 1
                bottom = lcm(*[pace.denominator for pace in found.values()])
                shared = gcd(*[int(pace * bottom) for pace in found.values()])
                self.told(text, {wire: int(found[wire] * bottom) // shared for wire in wires})
                if items_of_turn(text) <= 200:
                    self.assertEqual(steps_of_turn(text), tuple(self.steps(text, row) for row in text.statements))
        self.assertGreater(min(paced, unpaced), 50)

    def steps(self, text, row):
        """[29]: by the wire taken if the box thins or deals, otherwise by that given."""
        wire = row[-1] if row[0] in ("thin", "deal") else row[1]
        return paces(text)[wire]


class Steps(Case):
    def test_each_box(self):
        text = text_of("t = thin 2 1 u\nh = hold 2 t\ns = stretch 3 h\nd, e = deal s\nw = weave d d2 e\nd2 = delay [1] d\n"
                       "y = 2*w - c\nc = source [1, 2]")
        self.assertEqual(paces(text), {"u": 2, "t": 1, "h": 2, "s": 6, "d": 3, "e": 3, "w": 9, "d2": 3, "y": 9, "c": 9})
        self.assertEqual(steps_of_turn(text), (2, 2, 6, 6, 9, 3, 9, 9))
        self.assertIs(type(steps_of_turn(text)), tuple)

    def test_200_items(self):
        for many, items in ((59, 199), (60, 202)):
            text = text_of(f"v = hold {many} u\nw = hold {many} u\ny = v + w\nx = thin {many} 0 y")
            self.assertEqual(items_of_turn(text), 3 * many + 2)
        text = text_of("v = hold 49 u\nw = v\nx = v\ny = v\nz = thin 49 0 v\na = z + u\nb = a")
        self.assertEqual((items_of_turn(text), len(steps_of_turn(text))), (200, 7))
        text = text_of("v = hold 49 u\nw = v\nx = v\ny = v\nz = thin 49 0 v\na = z + u\nb = a\nc = b")
        self.assertEqual(items_of_turn(text), 201)
        self.raises(TooMany, lambda: steps_of_turn(text), most=200)
        self.assertEqual(paces(text)["v"], 49)

    def test_what_comes_first(self):
        text = text_of("v = hold 60 u\nw = hold 60 v\ny = hold 2 y2\ny2 = w + y")
        self.raises(Unpaced, lambda: steps_of_turn(text), at=4)


class Arguments(Case):
    def test_other_values(self):
        for call in (paces, items_of_turn, steps_of_turn):
            self.each_bad(call)
            self.each_bad(call, ["text a (u -> y)\ny = u", type("Text", (), {})(), Text, ONE])

    def test_new_each_time(self):
        text = text_of("y = hold 2 u")
        paces(text).clear()
        self.assertEqual(paces(text), {"u": 1, "y": 2})


if __name__ == "__main__":
    unittest.main()
