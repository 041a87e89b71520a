"""[53], [55], [110]: equations that follow, streams that break others, and streams lifted to all wires."""

import random
import unittest

from allstreams.equations import net_of_statements, read_net
from allstreams.errors import NotOfNet
from allstreams.following import breaker, follows, lifted
from allstreams.forms import net_of_form, normal_form
from allstreams.nets import Net
from allstreams.polymatrices import PolyMatrix
from allstreams.polys import Poly
from allstreams.ratios import Ratio
from allstreams.ruled import Ruled, woven_of
from tests.helpers import Case, random_poly
from tests.random_nets import holds_in, items_of, left_of_row, random_net, random_told_net

S = Poly([0, 1])
NOTHING = Poly([])
STILL = Ruled([], Poly([1]))


def net(text):
    return read_net("net a " + text)[1]


class Following(Case):
    def check(self, one, row):
        """What is told of a row is right; whether it follows."""
        multipliers, streams = follows(one, row), breaker(one, row)
        self.assertEqual(multipliers is None, streams is not None)
        if multipliers is None:
            self.assertEqual([type(streams), sorted(streams)], [dict, sorted(one.paces)])
            self.assertTrue(all(type(stream) is Ruled for stream in streams.values()))
            self.assertTrue(holds_in(one, streams))
            many = max(one.paces.values()) * (max(entry.degree() for entry in row) + 2)
            self.assertNotEqual(left_of_row(one, row, items_of(streams, many), 1), [0])
            return False
        self.assertEqual([type(multipliers), len(multipliers)], [tuple, one.rows.height])
        self.assertTrue(all(type(poly) is Poly for poly in multipliers))
        self.assertEqual((PolyMatrix([multipliers], one.rows.height) * one.rows).rows[0], tuple(row))
        return True

    def test_some(self):
        half = net("(u, y)\n0 = y[1] - 1/2*y - u\n")
        self.assertTrue(self.check(half, [Poly([-2]), Poly([-1, 2])]))
        self.assertTrue(self.check(half, [NOTHING, NOTHING]))
        self.assertTrue(self.check(half, [Poly([0, 0, 1]), Poly([0, 0, Ratio(1, 2), -1])]))
        self.assertFalse(self.check(half, [Poly([1]), NOTHING]))
        self.assertFalse(self.check(half, [Poly([-2]), Poly([-1, 3])]))

    def test_only_with_a_power_of_s_more(self):
        one = net("(a, b)\n0 = a[3] - b[3]\n")
        for many in range(6):
            row = [Poly([0] * many + [1]), Poly([0] * many + [-1])]
            self.assertEqual(self.check(one, row), many >= 3)

    def test_no_equations(self):
        free = Net(["a"], ["h"], {"a": 2, "h": 1}, PolyMatrix([], 3))
        self.assertEqual(follows(free, [NOTHING] * 3), ())
        self.assertIsNone(breaker(free, [NOTHING] * 3))
        self.assertFalse(self.check(free, [NOTHING, NOTHING, Poly([0, 0, 5, 0, -5])]))
        self.assertFalse(self.check(free, [Poly([1]), NOTHING, S]))

    def test_torsion(self):
        """Streams that are told by finitely many numbers, with roots anywhere."""
        for rule in (S * S, S - 1, S * S + 1, (S - 2).power(3), S * S - S - 1):
            one = Net(["a"], [], {"a": 1}, PolyMatrix([[rule]]))
            for row in (Poly([1]), S, S - 1, rule * S, rule, rule * rule + 1, S * (S - 2)):
                self.assertEqual(self.check(one, [row]), not row.divided(rule)[1].parts)

    def test_by_chance(self):
        chance = random.Random(351)
        kinds = {True: 0, False: 0}
        for number in range(200):
            one = random_net(chance) if number % 2 else random_told_net(chance, range(1, 6))[0]
            row = [random_poly(chance, chance.randint(-1, 2), 2, (1,)) for _ in range(one.rows.width)]
            if chance.random() < 0.6:
                times = [random_poly(chance, 1, 2, (1,)) for _ in range(one.rows.height)]
                row = list((PolyMatrix([times], one.rows.height) * one.rows).rows[0])
                if chance.random() < 0.3:
                    row[chance.randrange(len(row))] += S
            kinds[self.check(one, row)] += 1
        self.assertGreater(min(kinds.values()), 50)

    def test_great_delays(self):
        far = net("(x, y)\ny = delay 9999 x\n")
        self.assertIsNone(follows(far, [Poly([1]), NOTHING]))
        self.assertEqual(follows(far, [Poly([1]), Poly([0] * 9999 + [-1])]), (Poly([-1]),))
        streams = breaker(far, [Poly([1]), NOTHING])
        self.assertEqual([streams["x"].item(0).top != 0, streams["x"] == STILL], [True, False])
        self.assertNotEqual(breaker(far, [NOTHING, Poly([1])])["y"].item(0), Ratio(0))

    def test_wrong_inputs(self):
        half = net("(u, y)\n0 = y[1] - 1/2*y - u\n")
        for call in (follows, breaker):
            self.each_bad(lambda value: call(value, [NOTHING, NOTHING]))
            for value in (None, 5, "x", {}, True, NOTHING):
                self.bad(value, lambda: call(half, value))
            for value in (1, Ratio(1), None, "s", True, [S]):
                self.bad(value, lambda: call(half, [S, value]))
            for value in ([], [S], [S, S, S], (S,)):
                self.bad(value, lambda: call(half, value))
            self.bad("net", lambda: call("net", "row"))
            row = [S, S]
            self.assertEqual(call(net=half, row=tuple(row)) is None, call(half, row) is None)
            self.assertEqual(row, [S, S])

    def test_equal_calls(self):
        one = random_net(random.Random(352))
        row = [Poly([1])] * one.rows.width
        self.assertEqual([follows(one, row), breaker(one, row)], [follows(one, row), breaker(one, row)])


class Lifted(Case):
    def test_some(self):
        held = net("(u, w)\ny = hold 2 u\nw = thin 2 1 y\n")
        powers = Ruled([1], Poly([-2, 1]))
        told = lifted(held, {"w": powers, "u": powers})
        self.assertEqual(told, {"y": powers.held(2), "u": powers, "w": powers})
        self.assertIs(told["u"], powers)
        self.raises(NotOfNet, lambda: lifted(held, {"u": powers, "w": powers * 2}))
        self.raises(NotOfNet, lambda: lifted(held, {"u": powers, "w": powers.later(1)}))

    def test_free_and_hidden_wires(self):
        free = net("(u)\nz = v\nu = thin 2 0 z\n")
        told = lifted(free, {"u": Ruled([1, 2], Poly([-1, -1, 1]))})
        self.assertTrue(holds_in(free, told))
        # The hidden wire has to grow, whatever its beginning is.
        grown = net("(u)\n0 = v[1] - 2*v - u\n")
        told = lifted(grown, {"u": Ruled([1], Poly([-1, 1]))})
        self.assertTrue(holds_in(grown, told))

    def test_lanes(self):
        woven = net("(y)\ny = weave a b\n0 = a - b[1]\n")
        one = Ruled([3], Poly([-2, 1]))
        told = lifted(woven, {"y": woven_of([one.later(1), one])})
        self.assertEqual([told["b"], told["a"]], [one, one.later(1)])
        self.raises(NotOfNet, lambda: lifted(woven, {"y": woven_of([one, one])}))

    def test_what_begins_otherwise(self):
        late = net("(a, b)\n0 = a[2] - b[2]\n")
        one = Ruled([5], Poly([-1, 1]))
        self.assertEqual(lifted(late, {"a": one, "b": one.later(2).behind([1, 2])})["a"], one)
        self.raises(NotOfNet, lambda: lifted(late, {"a": one, "b": one.behind([1, 2, 3])}))

    def test_by_chance(self):
        chance = random.Random(353)
        kinds = {True: 0, False: 0}
        for number in range(80):
            one = random_net(chance) if number % 2 else random_told_net(chance, range(1, 6))[0]
            row = [random_poly(chance, 1, 2, (1,)) for _ in range(one.rows.width)]
            streams = breaker(one, row) or {name: STILL for name in one.paces}
            given = {end: streams[end] for end in one.ends}
            told = lifted(one, given)
            self.assertTrue(holds_in(one, told))
            self.assertTrue(all(told[end] is given[end] for end in one.ends))
            self.assertEqual(given, {end: streams[end] for end in one.ends})
            given[chance.choice(one.ends)] = Ruled([1, chance.randint(-1, 1)], Poly([1, chance.randint(-1, 1), 1]))
            try:
                fits = holds_in(one, lifted(one, given))
                self.assertTrue(fits)
            except NotOfNet:
                fits = False
            self.assertEqual(fits, holds_in(net_of_form(normal_form(one)), given, 25))
            kinds[fits] += 1
        self.assertGreater(min(kinds.values()), 10)

    def test_wrong_inputs(self):
        held = net("(u, w)\ny = hold 2 u\nw = thin 2 1 y\n")
        self.each_bad(lambda value: lifted(value, {"u": STILL, "w": STILL}))
        for value in ({}, {"u": STILL}, {"u": STILL, "w": STILL, "y": STILL}, {"u": STILL, "y": STILL},
                      {"u": STILL, "w": Poly([1])}, {"u": STILL, "w": [1]}, {"u": STILL, "w": None}, None, 5, [STILL, STILL],
                      "uw", {"u": STILL, 5: STILL}):
            self.bad(value, lambda: lifted(held, value))
        self.bad("net", lambda: lifted("net", "streams"))
        self.assertEqual(lifted(net=held, streams={"u": STILL, "w": STILL})["y"], STILL)


class Sizes(Case):
    """[123]."""

    def test_48_columns(self):
        rows = [("sum", f"w{number + 1}", ((Ratio(number + 1, 7), f"w{number}"), (Ratio(1), f"d{number}")))
                for number in range(16)]
        rows += [("delay", f"d{number}", 1, f"w{number}") for number in range(15)] + [("delay", "d15", 3, "w15")]
        ends = ["w0", "w16"]
        one = net_of_statements(ends, rows)
        row = [Poly([1]) if column == ("w9", 0) else NOTHING for column in one.columns()]
        streams = breaker(one, row)
        self.assertTrue(holds_in(one, streams, 40))
        self.assertNotEqual(streams["w9"].item(0), Ratio(0))
        told = lifted(one, {end: streams[end] for end in ends})
        self.assertTrue(holds_in(one, told, 40))


if __name__ == "__main__":
    unittest.main()
