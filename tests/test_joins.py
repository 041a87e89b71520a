"""[57], [112]: nets joined by their ends of the same names."""

import random
import unittest

from allstreams.equations import net_of_statements, read_net
from allstreams.errors import Apart, TooMany, Unlike
from allstreams.following import breaker
from allstreams.forms import alike_nets, normal_form
from allstreams.joins import joined
from allstreams.nets import Net, hide, renamed_net
from allstreams.polymatrices import PolyMatrix
from allstreams.polys import Poly
from allstreams.ratios import Ratio
from allstreams.words import is_name
from tests.helpers import Case
from tests.random_nets import holds_in, random_net
from tests.test_forms import rearranged

S = Poly([0, 1])


def net(text):
    return read_net("net a " + text)[1]


class Joined(Case):
    def test_by_one_end(self):
        held, last = net("(u, w)\ny = hold 2 u\nw = thin 2 1 y\n"), net("(w, v)\nv = 2*w\n")
        both = joined(held, last)
        self.assertEqual([both.ends, both.paces], [("u", "w", "v"), {"y": 2, "u": 1, "w": 1, "v": 1}])
        self.assertTrue(alike_nets(hide(both, ["w"]), net("(u, v)\nv = 2*u\n")))
        self.assertEqual(joined(last, held).ends, ("w", "v", "u"))
        self.assertTrue(alike_nets(joined(last, held), both))

    def test_by_all_ends(self):
        one, other = net("(a, b)\nb = 2*a\n"), net("(b, a)\na = delay 1 b\n")
        both = joined(one, other)
        self.assertEqual([both.ends, both.hidden], [("a", "b"), ()])
        # a(t + 1) = b(t) and b(t) = 2*a(t).
        self.assertEqual(normal_form(both).rows, PolyMatrix([[1, Ratio(-1, 2)], [0, S - 2]]))

    def test_with_itself(self):
        one = net("(a, b)\nh = 2*a\nb = delay 1 h\n")
        both = joined(one, one)
        self.assertEqual([both.ends, len(both.hidden), len(set(both.hidden))], [("a", "b"), 2, 2])
        self.assertTrue(alike_nets(both, one))

    def test_unlike_paces(self):
        slow, fast = net("(u, w)\nw = hold 2 u\n"), net("(w, v)\nw = hold 3 v\n")
        both = joined(slow, fast)
        self.assertEqual([both.ends, both.paces], [("u", "w", "v"), {"u": 3, "w": 6, "v": 2}])
        self.assertTrue(alike_nets(both, net_of_statements(["u", "w", "v"], [("hold", "w", 2, "u"), ("hold", "w", 3, "v")])))
        self.assertEqual(joined(slow.over(3), fast).paces, {"u": 3, "w": 6, "v": 2})
        self.raises(Unlike, lambda: joined(slow, net("(u, w)\nw = u\n")))
        self.raises(Unlike, lambda: joined(slow, net("(u, w, q)\nw = hold 3 u\nq = u\n")))

    def test_hidden_wires_stay_apart(self):
        one, other = net("(a, b)\nh = 2*a\nb = 3*h\n"), net("(b, h)\nx = 5*b\nh = x\n")
        both = joined(one, other)
        self.assertEqual(both.ends, ("a", "b", "h"))
        self.assertEqual(len(set(both.hidden + both.ends)), 5)
        self.assertTrue(all(is_name(name) for name in both.hidden))
        self.assertTrue(alike_nets(hide(both, ["b"]), net("(a, h)\nh = 30*a\n")))
        again = joined(other, one)
        self.assertEqual([again.ends, len(set(again.hidden + again.ends))], [("b", "h", "a"), 5])
        self.assertTrue(alike_nets(again, both))
        # Names that would be free otherwise.
        names = Net(["a", "h0"], ["h"], {"a": 1, "h0": 1, "h": 1}, PolyMatrix([[1, -1, 0], [1, 0, -1]]))
        third = Net(["a", "h"], ["h0", "h1"], {"a": 1, "h": 1, "h0": 1, "h1": 1}, PolyMatrix([[1, -1, 0, 0], [0, 0, 1, -1]]))
        told = joined(names, third)
        self.assertEqual([told.ends, len(set(told.hidden + told.ends))], [("a", "h0", "h"), 6])

    def test_streams(self):
        """Streams of what is joined are streams of both, and the other way round."""
        chance = random.Random(371)
        for _ in range(60):
            one, other = random_net(chance, 4), random_net(chance, 4)
            new = {end: (one.ends[number] if number < len(one.ends) else f"z{number}") for number, end in enumerate(other.ends)}
            other = renamed_net(other, new)
            if any(one.paces[end] != other.paces[end] for end in one.ends if end in other.ends):
                continue
            both = joined(one, other)
            row = [Poly([chance.randint(-1, 1)]) for _ in range(both.rows.width)]
            streams = breaker(both, row)
            if streams:
                olds = dict(zip(both.hidden, one.hidden + other.hidden))
                first = {name: streams[name] for name in one.ends}
                first.update({olds[name]: streams[name] for name in both.hidden[:len(one.hidden)]})
                second = {name: streams[name] for name in other.ends}
                second.update({olds[name]: streams[name] for name in both.hidden[len(one.hidden):]})
                self.assertTrue(holds_in(one, first) and holds_in(other, second))

    def test_alike_nets_may_take_each_others_place(self):
        chance = random.Random(372)
        for _ in range(40):
            one, other = random_net(chance, 4, 1), random_net(chance, 4, 1)
            shared = {end: one.ends[0] if number == 0 else f"z{number}" for number, end in enumerate(other.ends)}
            other = renamed_net(other, shared)
            told = [joined(left, right) for left, right in
                    ((one, other), (rearranged(chance, one), other), (one, rearranged(chance, other)))]
            self.assertEqual(normal_form(told[0]), normal_form(told[1]))
            self.assertEqual(normal_form(told[0]), normal_form(told[2]))
            if len(told[0].ends) > 1:
                hidden = [hide(whole, [told[0].ends[0]]) for whole in told]
                self.assertEqual(normal_form(hidden[0]), normal_form(hidden[1]))

    def test_errors(self):
        one, other = net("(u, y)\ny = u\n"), net("(w, v)\nv = 2*w\n")
        self.raises(Apart, lambda: joined(one, other), name="w")
        self.raises(Apart, lambda: joined(other, one), name="u")
        wide = Net(["u"], ["h"], {"u": 1, "h": 23}, PolyMatrix([], 24))
        self.assertEqual(joined(wide, Net(["u"], [], {"u": 2}, PolyMatrix([], 2))).rows.width, 48)
        self.raises(TooMany, lambda: joined(wide, Net(["u"], ["g"], {"u": 2, "g": 1}, PolyMatrix([], 3))), most=48)
        self.raises(TooMany, lambda: joined(wide, Net(["u"], [], {"u": 3}, PolyMatrix([], 3))), most=48)
        half = Net(["u"], ["h"], {"u": 1, "h": 24}, PolyMatrix([], 25))
        self.raises(TooMany, lambda: joined(half, half), most=48)
        # What is shared counts once.
        full = Net(["u", "v"], [], {"u": 47, "v": 1}, PolyMatrix([], 48))
        self.assertEqual(joined(full, full).rows.width, 48)

    def test_wrong_inputs(self):
        one = net("(u, y)\ny = u\n")
        self.each_bad(lambda value: joined(value, one))
        self.each_bad(lambda value: joined(one, value))
        self.bad("one", lambda: joined("one", "other"))
        self.assertEqual(joined(one=one, other=one).ends, ("u", "y"))
        self.assertEqual([one.ends, one.rows.height], [("u", "y"), 1])


if __name__ == "__main__":
    unittest.main()
