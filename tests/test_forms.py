"""[53], [54], [109]: forms of nets, like ends and alike nets."""

import random
import unittest

from allstreams.equations import net_of_statements, read_net
from allstreams.errors import TooMany, Unlike
from allstreams.following import breaker, follows, lifted
from allstreams.forms import Form, alike_nets, like_ends, net_of_form, normal_form
from allstreams.hermite import hermite
from allstreams.nets import Net, hide
from allstreams.polymatrices import PolyMatrix
from allstreams.polys import Poly
from allstreams.ratios import Ratio
from allstreams.ruled import Ruled
from tests.helpers import Case, reversible
from tests.random_nets import holds_in, random_net, random_told_net

ONE = Ratio(1)
S = Poly([0, 1])


def net(text):
    return read_net("net a " + text)[1]


def full_row(of_net, form, row):
    """A row of the form in the columns of the net."""
    places = [(end, lane) for end, pace in zip(form.ends, form.paces) for lane in range(pace)]
    told = dict(zip(places, row))
    return [told.get(column, Poly([])) for column in of_net.columns()]


def rearranged(chance, of_net):
    """The same net told in another way: other equations, and other orders of wires."""
    height = of_net.rows.height
    rows = reversible(chance, height) * of_net.rows
    more = [[sum_of(one, other) for one, other in zip(rows.rows[0], rows.rows[-1])]] if height else []
    ends, hidden = chance.sample(of_net.ends, len(of_net.ends)), chance.sample(of_net.hidden, len(of_net.hidden))
    columns = list(of_net.columns())
    order = [columns.index((name, lane)) for name in [*hidden, *ends] for lane in range(of_net.paces[name])]
    told = [[row[place] for place in order] for row in [*rows.rows, *more]]
    return Net(ends, hidden, of_net.paces, PolyMatrix(told, len(columns)))


def sum_of(one, other):
    return one + S * other


class Forms(Case):
    def test_outer_equations(self):
        # Nothing may be divided away.
        form = normal_form(net("(a, b)\na = delay 1 x\n0 = a[1] - b[1]\n"))
        self.assertEqual(form.rows, PolyMatrix([[S, -S]]))
        form = normal_form(net("(a, b)\n0 = a - x[1]\n0 = b - x[2]\n"))
        self.assertEqual(form.rows, PolyMatrix([[S, -1]]))
        self.assertEqual([form.ends, form.paces], [("a", "b"), (1, 1)])
        self.assertEqual([type(form), type(form.ends), type(form.paces), type(form.rows)], [Form, tuple, tuple, PolyMatrix])

    def test_ends_in_ascending_order(self):
        form = normal_form(net("(z, a)\nz = hold 2 a\n"))
        self.assertEqual([form.ends, form.paces], [("a", "z"), (1, 2)])
        self.assertEqual(form.rows, PolyMatrix([[1, 0, -1], [0, 1, -1]]))

    def test_without_hidden_wires_and_without_equations(self):
        rows = PolyMatrix([[S, 1], [1, S]])
        plain = Net(["a", "b"], [], {"a": 1, "b": 1}, rows)
        self.assertEqual(normal_form(plain).rows, hermite(rows)[0])
        free = Net(["a"], ["h"], {"a": 2, "h": 1}, PolyMatrix([], 3))
        self.assertEqual(normal_form(free).rows, PolyMatrix([], 2))
        noughts = Net(["a"], ["h"], {"a": 1, "h": 1}, PolyMatrix([[0, 0], [1, 0]]))
        self.assertEqual(normal_form(noughts).rows, PolyMatrix([], 1))

    def test_by_chance(self):
        """The rows follow and are 0 in hidden columns; streams on the ends for which they hold can be lifted."""
        chance = random.Random(341)
        kinds = set()
        for number in range(120):
            one = random_net(chance) if number % 2 else random_told_net(chance, range(1, 6))[0]
            form = normal_form(one)
            kinds.add((bool(one.hidden), form.rows.height > 0))
            self.assertEqual(hermite(form.rows)[0], form.rows)
            for row in form.rows.rows:
                multipliers = follows(one, full_row(one, form, row))
                told = PolyMatrix([multipliers], one.rows.height) * one.rows
                self.assertEqual(list(told.rows[0]), full_row(one, form, row))
            self.check_lifted(chance, one, form)
        self.assertEqual(len(kinds), 4)

    def check_lifted(self, chance, one, form):
        alone = net_of_form(form)
        row = [Poly([chance.randint(-2, 2) for _ in range(2)]) for _ in range(alone.rows.width)]
        streams = breaker(alone, row) or {end: Ruled([], Poly([1])) for end in form.ends}
        told = lifted(one, streams)
        self.assertTrue(holds_in(one, told))
        self.assertEqual(sorted(told), sorted(one.paces))

    def test_equal_nets_told_in_other_ways(self):
        chance = random.Random(342)
        for _ in range(60):
            one = random_net(chance, 6, 1)
            other = rearranged(chance, one)
            self.assertEqual(normal_form(one), normal_form(other))
            self.assertTrue(alike_nets(one, other))

    def test_equality(self):
        one, other = normal_form(net("(a)\na = delay 1 a\n")), normal_form(net("(a)\n0 = 2*a[1] - 2*a\n"))
        self.assertEqual(one, other)
        self.assertNotEqual(one, normal_form(net("(b)\nb = delay 1 b\n")))
        self.assertNotEqual(one, normal_form(net("(a)\n0 = a[1] + a\n")))
        self.assertNotEqual(one, normal_form(net("(a)\n0 = a[1] - a\nb = hold 2 a\n").over(2)))
        self.assertNotEqual(one, one.rows)
        self.assertNotEqual(one, None)
        # Equations alike, but not the paces.
        first = Net(["a", "b"], [], {"a": 1, "b": 2}, PolyMatrix([[1, 0, 0]]))
        second = Net(["a", "b"], [], {"a": 2, "b": 1}, PolyMatrix([[1, 0, 0]]))
        self.assertNotEqual(normal_form(first), normal_form(second))

    def test_nets_of_forms(self):
        chance = random.Random(343)
        for _ in range(30):
            form = normal_form(random_net(chance))
            told = net_of_form(form=form)
            self.assertEqual([told.ends, told.hidden, told.paces], [form.ends, (), dict(zip(form.ends, form.paces))])
            self.assertEqual([told.rows, normal_form(told)], [form.rows, form])

    def test_wrong_inputs(self):
        form = normal_form(net("(a)\na = a\n"))
        self.each_bad(normal_form)
        self.each_bad(net_of_form)
        self.bad(form, lambda: normal_form(form))
        one = net_of_form(form)
        self.bad(one, lambda: net_of_form(one))


class Alike(Case):
    def test_like_ends(self):
        held, plain = net("(u, w)\ny = hold 2 u\nw = thin 2 1 y\n"), net("(u, w)\nw = u\n")
        self.assertEqual([like_ends(held, plain), like_ends(plain, held)], [(1, 1), (1, 1)])
        self.assertEqual(like_ends(net("(w, u)\nw = u\n"), plain), (1, 1))
        slow, fast = net("(u, w)\nw = hold 2 u\n"), net("(u, w)\nw = hold 2 u\n").over(6)
        self.assertEqual([like_ends(slow, fast), like_ends(fast, slow), like_ends(fast, slow.over(4))],
                         [(6, 1), (1, 6), (2, 3)])
        self.assertEqual(type(like_ends(slow, fast)), tuple)
        self.assertIsNone(like_ends(slow, plain))
        self.assertIsNone(like_ends(plain, net("(u)\nw = u\n")))
        self.assertIsNone(like_ends(plain, net("(u, v)\nv = u\n")))

    def test_alike(self):
        held, plain = net("(u, w)\ny = hold 2 u\nw = thin 2 1 y\n"), net("(u, w)\nw = u\n")
        self.assertEqual([alike_nets(held, plain), alike_nets(plain, held), alike_nets(plain, plain)], [True] * 3)
        other = net("(u, w)\nw = 2*u\n")
        self.assertEqual([alike_nets(plain, other), alike_nets(other, held)], [False, False])
        # Several turns of one, and of both.
        slow = net("(u)\n0 = u[1] - u\n")
        self.assertTrue(alike_nets(slow, slow.over(3)))
        self.assertTrue(alike_nets(slow.over(2), slow.over(3)))
        self.assertFalse(alike_nets(slow.over(2), net("(u)\n0 = u[2] - u\n")))
        self.assertFalse(alike_nets(net("(u)\n0 = u[2] - u\n").over(3), slow.over(2)))
        free = Net(["u"], [], {"u": 1}, PolyMatrix([], 1))
        self.assertFalse(alike_nets(free, slow))

    def test_by_chance(self):
        chance = random.Random(344)
        for _ in range(30):
            one = random_net(chance, 4, 1)
            turns = [chance.randint(1, 3) for _ in range(2)]
            other = rearranged(chance, one)
            self.assertTrue(alike_nets(one.over(turns[0]), other.over(turns[1])))
            row = [Poly([chance.randint(-1, 1) for _ in range(2)]) for _ in range(one.rows.width)]
            more = Net(one.ends, one.hidden, one.paces, PolyMatrix([*one.rows.rows, row], one.rows.width))
            same = normal_form(one) == normal_form(more)
            self.assertEqual([alike_nets(one.over(turns[0]), more), alike_nets(more, one)], [same, same])

    def test_errors(self):
        slow, plain = net("(u, w)\nw = hold 2 u\n"), net("(u, w)\nw = u\n")
        self.raises(Unlike, lambda: alike_nets(slow, plain))
        self.raises(Unlike, lambda: alike_nets(plain, net("(u)\nw = u\n")))
        # 50 lanes in the common turn, in both orders; hidden wires are not counted.
        wide = Net(["u"], [], {"u": 25}, PolyMatrix([], 25))
        two = Net(["u"], [], {"u": 2}, PolyMatrix([], 2))
        self.raises(TooMany, lambda: alike_nets(wide, two), most=48)
        self.raises(TooMany, lambda: alike_nets(two, wide), most=48)
        fits = Net(["u"], [], {"u": 24}, PolyMatrix([], 24)), Net(["u"], ["h"], {"u": 16, "h": 32}, PolyMatrix([], 48))
        self.assertTrue(alike_nets(*fits))
        self.assertTrue(alike_nets(fits[1], fits[0]))

    def test_wrong_inputs(self):
        plain = net("(u, w)\nw = u\n")
        for call in (like_ends, alike_nets):
            self.each_bad(lambda value: call(value, plain))
            self.each_bad(lambda value: call(plain, value))
            self.bad("one", lambda: call("one", "other"))
        self.assertEqual(like_ends(one=plain, other=plain), (1, 1))
        self.assertTrue(alike_nets(other=plain, one=plain))


class Sizes(Case):
    """[123]."""

    def test_48_columns(self):
        rows, names = [], ["u"]
        for number in range(23):
            before = f"d{number - 1}" if number else "u"
            rows.append(("sum", f"y{number}", ((ONE, before), (Ratio(1, 2), f"d{number}"), (Ratio(-1), "d22"))))
            rows.append(("delay", f"d{number}", 1, f"y{number}"))
            names += [f"y{number}", f"d{number}"]
        whole = net_of_statements(names, rows)
        form = normal_form(whole)
        self.assertEqual([form.rows.height, form.rows.width], [46, 47])
        inner = normal_form(hide(whole, names[1:-1]))
        self.assertEqual([inner.ends, inner.rows.height], [("d22", "u"), 1])
        self.assertEqual(max(entry.degree() for entry in inner.rows.rows[0]), 23)
        far = net("(x, y)\ny = delay 9999 x\nz = delay 9999 y\n")
        self.assertEqual(normal_form(far).rows, PolyMatrix([[1, Poly([0] * 9999 + [-1])]]))


if __name__ == "__main__":
    unittest.main()
