"""[51], [57], [107]: nets, their columns, nets over several turns, ends hidden and named anew."""

import random
import unittest

from allstreams.errors import TooMany
from allstreams.forms import normal_form
from allstreams.nets import Net, hide, renamed_net
from allstreams.polymatrices import PolyMatrix
from allstreams.polys import Poly
from allstreams.ratios import Ratio
from allstreams.relations import has_rows
from allstreams.words import is_name
from fractions import Fraction
from tests.helpers import Case
from tests.random_nets import left_of_row, random_net

S = Poly([0, 1])


def small():
    return Net(["a", "b"], ["h"], {"a": 2, "b": 1, "h": 1}, PolyMatrix([[S, 1, S * S, 0], [0, 0, 1, Poly([-1])]]))


class Nets(Case):
    def test_attributes(self):
        paces = {"h": 1, "b": 1, "a": 2}
        rows = PolyMatrix([[S, 1, 2, 0]])
        ends, hidden = ["a", "b"], ["h"]
        net = Net(ends, hidden, paces, rows)
        ends.append("c")
        hidden.clear()
        paces["a"] = 7
        self.assertEqual([net.ends, net.hidden, net.paces, net.rows], [("a", "b"), ("h",), {"a": 2, "b": 1, "h": 1}, rows])
        self.assertEqual([type(net.ends), type(net.hidden), type(net.paces)], [tuple, tuple, dict])
        self.assertEqual(net.columns(), (("h", 0), ("a", 0), ("a", 1), ("b", 0)))
        self.assertEqual(type(net.columns()), tuple)
        self.assertTrue(all(type(column) is tuple for column in net.columns()))

    def test_kinds_of_lists(self):
        net = Net(("a", "b"), ("h",), {"a": 2, "b": 1, "h": 1}, PolyMatrix([], 4))
        self.assertEqual([net.ends, net.hidden], [("a", "b"), ("h",)])
        named = Net(ends=["a"], hidden=[], paces={"a": 1}, rows=PolyMatrix([], 1))
        self.assertEqual([named.ends, named.hidden, named.columns()], [("a",), (), (("a", 0),)])

    def test_nets_are_equal_only_to_themselves(self):
        net = small()
        self.assertEqual(net, net)
        self.assertNotEqual(net, small())
        self.assertNotEqual(net, "net")

    def test_columns_of_many(self):
        names = [f"n{number}" for number in range(24)]
        net = Net(names, [], {name: 2 for name in names}, PolyMatrix([], 48))
        self.assertEqual(len(net.columns()), 48)
        self.raises(TooMany, lambda: Net([*names, "q"], [], {**{name: 2 for name in names}, "q": 1},
                                         PolyMatrix([], 49)), most=48)
        self.raises(TooMany, lambda: Net(["q"], [], {"q": 49}, PolyMatrix([], 49)), most=48)
        self.assertEqual(Net(["q"], [], {"q": 48}, PolyMatrix([], 48)).columns()[47], ("q", 47))

    def test_wrong_inputs(self):
        def made(ends=("a",), hidden=("h",), paces=None, rows=None):
            paces = {"a": 1, "h": 1} if paces is None else paces
            return Net(ends, hidden, paces, PolyMatrix([], 2) if rows is None else rows)

        for value in (None, "x", 5, 1.0, {}, {"a": 1}, object(), True):
            self.bad(value, lambda: made(ends=value))
            self.bad(value, lambda: made(hidden=value))
        for value in ("", "A", "text", "net", "a_b", "1a", "a" * 41, None, 5, ["a"], True):
            self.bad(value, lambda: made(ends=["a", value]))
            self.bad(value, lambda: made(hidden=["h", value]))
        for value in ([], (), ["a", "a"]):
            self.bad(value, lambda: made(ends=value))
        for value in (["h", "h"], ["a"], ["h", "a"]):
            self.bad(value, lambda: made(hidden=value))
        for value in ({}, {"a": 1}, {"a": 1, "h": 0}, {"a": 1, "h": -1}, {"a": 1, "h": True}, {"a": 1, "h": "1"},
                      {"a": 1, "h": Ratio(1)}, {"a": 1, "h": 1, "q": 1}, {"a": 1, "q": 1}, [], ["a", "h"], 5, "ah",
                      [("a", 1), ("h", 1)], {1: 1, "a": 1}, {("a",): 1, "h": 1}):
            self.bad(value, lambda: made(paces=value))
        for value in ([], [[1, 2]], 5, "x", PolyMatrix([], 1), PolyMatrix([], 3), PolyMatrix([[1]]), {}, Poly([1])):
            self.bad(value, lambda: made(rows=value))
        # Two wrong ones: the first is told; and BadValue comes ahead of TooMany.
        both = [["a", "a"], {"a": 1}]
        self.bad(both[0], lambda: Net(both[0], both[0], {}, None))
        self.bad(both[1], lambda: made(paces=both[1], rows=5))
        rows = PolyMatrix([], 48)
        self.bad(rows, lambda: Net(["q"], [], {"q": 49}, rows))


class Over(Case):
    def test_by_its_words(self):
        net = small().over(2)
        self.assertEqual(net.columns(), (("h", 0), ("h", 1), ("a", 0), ("a", 1), ("a", 2), ("a", 3), ("b", 0), ("b", 1)))
        self.assertEqual([net.ends, net.hidden, net.paces], [("a", "b"), ("h",), {"a": 4, "b": 2, "h": 2}])
        rows = PolyMatrix([
            [0, 1, 1, S, 0, 0, 0, 0],
            [S, 0, 0, 0, 1, S, 0, 0],
            [0, 0, 0, 1, 0, 0, -1, 0], [0, 0, 0, 0, 0, 1, 0, -1],
        ])
        self.assertTrue(has_rows(rows, net.rows) and has_rows(net.rows, rows))
        self.assertEqual(net.rows.height, 4)

    def test_over_one_turn(self):
        net = small()
        again = net.over(1)
        self.assertEqual([again.columns(), again.rows], [net.columns(), net.rows])

    def test_streams_stay(self):
        chance = random.Random(321)
        for _ in range(60):
            net = random_net(chance, 6)
            turns = chance.randint(1, 4)
            wide = net.over(turns)
            self.assertEqual([wide.ends, wide.hidden], [net.ends, net.hidden])
            self.assertEqual(wide.paces, {name: turns * pace for name, pace in net.paces.items()})
            self.assertEqual(wide.rows.height, turns * net.rows.height)
            streams = {name: [Fraction(chance.randint(-9, 9)) for _ in range(80)] for name in net.paces}
            told = sorted(item for row in net.rows.rows for item in left_of_row(net, row, streams, 3 * turns))
            self.assertEqual(sorted(item for row in wide.rows.rows for item in left_of_row(wide, row, streams, 3)), told)

    def test_too_many(self):
        net = small()
        self.assertEqual(len(net.over(12).columns()), 48)
        for turns in (13, 48, 10 ** 40):
            self.raises(TooMany, lambda: net.over(turns), most=48)

    def test_wrong_inputs(self):
        net = small()
        self.each_bad(net.over)
        for value in (0, -1, Ratio(2)):
            self.bad(value, lambda: net.over(value))
        self.assertEqual(net.over(turns=2).columns(), net.over(2).columns())


class Hidden(Case):
    def test_order(self):
        net = Net(["a", "b", "c"], ["h"], {"a": 1, "b": 2, "c": 1, "h": 1}, PolyMatrix([[1, 2, 3, 4, 5]]))
        told = hide(net, ["c", "b"])
        self.assertEqual([told.ends, told.hidden, told.paces], [("a",), ("h", "c", "b"), net.paces])
        self.assertEqual(told.columns(), (("h", 0), ("c", 0), ("b", 0), ("b", 1), ("a", 0)))
        self.assertEqual(told.rows, PolyMatrix([[1, 5, 3, 4, 2]]))
        self.assertEqual(hide(net, []).columns(), net.columns())
        self.assertEqual([net.ends, net.hidden], [("a", "b", "c"), ("h",)])
        self.assertEqual(hide(net=net, names=("a",)).ends, ("b", "c"))

    def test_wrong_inputs(self):
        net = small()
        self.each_bad(lambda value: hide(value, []))
        for value in (None, "a", 5, {}, True):
            self.bad(value, lambda: hide(net, value))
        for value in ("h", "q", "", None, 5, True, ["a"], ("a",)):
            self.bad(value, lambda: hide(net, ["a", value]))
        for value in (["a", "a"], ["a", "b"], ("b", "a")):
            self.bad(value, lambda: hide(net, value))
        self.bad("net", lambda: hide("net", "names"))


class Renamed(Case):
    def test_names(self):
        net = small()
        told = renamed_net(net, {"b": "a", "a": "b"})
        self.assertEqual([told.ends, told.hidden, told.rows], [("b", "a"), ("h",), net.rows])
        self.assertEqual(told.paces, {"b": 2, "a": 1, "h": 1})
        same = renamed_net(net=net, names={"a": "a", "b": "b"})
        self.assertEqual([same.columns(), same.rows], [net.columns(), net.rows])

    def test_ends_that_meet_hidden_wires(self):
        names = ["h", "h0", "h1"]
        net = Net(["a", "b"], names, {**{name: 1 for name in names}, "a": 2, "b": 3}, PolyMatrix([[1, 2, 3, 4, 5, 6, 7, 8]]))
        for new in ({"a": "h", "b": "x"}, {"a": "h1", "b": "h"}, {"a": "h0", "b": "h2"}, {"a": "b", "b": "a"}):
            told = renamed_net(net, new)
            self.assertEqual(told.ends, (new["a"], new["b"]))
            self.assertEqual(told.rows, net.rows)
            self.assertEqual(len(set(told.ends + told.hidden)), 5)
            self.assertTrue(all(is_name(name) for name in told.hidden))
            self.assertEqual([pace for name, pace in ((name, told.paces[name]) for name in told.hidden + told.ends)],
                             [1, 1, 1, 2, 3])
            for old, hidden in zip(net.hidden, told.hidden):
                self.assertTrue(old == hidden or old in told.ends)
        self.assertEqual(net.hidden, ("h", "h0", "h1"))

    def test_forms_stay(self):
        chance = random.Random(322)
        for _ in range(20):
            net = random_net(chance, 5)
            new = {end: f"z{number}" for number, end in enumerate(sorted(net.ends))}
            self.assertEqual(normal_form(renamed_net(net, new)).rows, normal_form(net).rows)

    def test_wrong_inputs(self):
        net = small()
        self.each_bad(lambda value: renamed_net(value, {"a": "a", "b": "b"}))
        for value in ({}, {"a": "x"}, {"a": "x", "b": "x"}, {"a": "x", "b": "y", "h": "z"}, {"a": "x", "q": "y"},
                      {"a": "x", "b": "text"}, {"a": "x", "b": 5}, {"a": "x", "b": None}, {"a": "x", "b": ["y"]},
                      {"a": "x", "b": "y" * 41}, ["a", "b"], "ab", None, 5, {1: "x", "b": "y"}):
            self.bad(value, lambda: renamed_net(net, value))
        self.bad(5, lambda: renamed_net(5, 6))


if __name__ == "__main__":
    unittest.main()
