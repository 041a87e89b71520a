"""[56], [111]: which ends can be driven, free beginnings, and machines of nets."""

import itertools
import random
import unittest

from allstreams.driving import can_drive, free_beginnings, machine_of_net
from allstreams.equations import net_of, net_of_statements, read_net
from allstreams.errors import NotDriven
from allstreams.forms import net_of_form, normal_form
from allstreams.machines import Machine
from allstreams.nets import Net
from allstreams.polymatrices import PolyMatrix
from allstreams.polys import Poly
from allstreams.ratios import Ratio
from allstreams.reader import read_texts
from allstreams.sightless import unseen
from tests.helpers import Case, fraction
from tests.random_machines import random_columns
from tests.random_nets import left_of_row, random_net, random_told_net

S = Poly([0, 1])
ONE = Ratio(1)


def net(text):
    return read_net("net a " + text)[1]


def by_the_fact(one, wires):
    """How many free beginnings there are by the letter of point 56, None if the ends cannot be driven."""
    form = normal_form(one)
    columns = [end for end, pace in zip(form.ends, form.paces) for _ in range(pace)]
    other = [place for place, end in enumerate(columns) if end not in wires]
    driven = [place for place, end in enumerate(columns) if end in wires]
    if len(other) != form.rows.height:
        return None
    left = PolyMatrix([[row[place] for place in other] for row in form.rows.rows], len(other))
    right = PolyMatrix([[row[place] for place in driven] for row in form.rows.rows], len(driven))
    worth = left.determinant()
    if not worth.parts or (left.adjugate() * right).degree() > worth.degree():
        return None
    return worth.degree()


class Driven(Case):
    def check(self, chance, one, wires):
        """What is told of driven ends; the free beginnings, None if there are none."""
        free = by_the_fact(one, wires)
        self.assertIs(can_drive(one, wires), free is not None)
        if free is None:
            self.raises(NotDriven, lambda: free_beginnings(one, wires))
            self.raises(NotDriven, lambda: machine_of_net(one, wires))
            return None
        self.assertEqual([type(free_beginnings(one, wires)), free_beginnings(one, wires)], [int, free])
        machine = machine_of_net(one, wires)
        others = [end for end in one.ends if end not in wires]
        self.assertEqual([type(machine), machine.size()], [Machine, free])
        self.assertEqual([machine.ins, machine.outs],
                         [tuple(one.paces[end] for end in wires), tuple(one.paces[end] for end in others)])
        self.assertEqual(machine.start, (Ratio(0),) * free)
        # Unlike starts tell unlike streams.
        self.assertEqual(unseen(machine).width, 0)
        self.check_run(chance, one, machine, wires, others)
        return free

    def check_run(self, chance, one, machine, wires, others):
        """Run from any start, it tells a stream of the ends."""
        alone = net_of_form(normal_form(one))
        begun = Machine(machine.a, machine.b, machine.c, machine.d, [chance.randint(-3, 3) for _ in machine.start],
                        machine.ins, machine.outs)
        turns = 6 + max(alone.rows.degree(), 0)
        for running in (machine, begun):
            columns = random_columns(chance, machine, turns)
            told = running.run(columns)
            streams = {}
            for names, table in ((wires, columns), (others, told)):
                first = 0
                for name in names:
                    many = one.paces[name]
                    items = [item for turn in table for item in turn[first:first + many]]
                    streams[name] = [fraction(item) for item in items]
                    first += many
            for row in alone.rows.rows:
                self.assertEqual(left_of_row(alone, row, streams, 6), [0] * 6)

    def test_some(self):
        chance = random.Random(361)
        half = net("(u, y)\n0 = y[1] - 1/2*y - u\n")
        self.assertEqual([self.check(chance, half, wires) for wires in (["u"], ["y"], [], ["u", "y"], ["y", "u"])],
                         [1, None, None, None, None])
        # One of two, whichever.
        plain = net("(u, y)\ny = 3*u\n")
        self.assertEqual([self.check(chance, plain, wires) for wires in (["u"], ["y"], [])], [0, 0, None])

    def test_none_and_all(self):
        chance = random.Random(362)
        told = net("(a, b)\n0 = a[2] - a - b\n0 = b[1]\n")
        self.assertEqual([self.check(chance, told, wires) for wires in ([], ["a"], ["b"], ["a", "b"])], [3, None, None, None])
        free = Net(["a", "b"], ["h"], {"a": 2, "b": 1, "h": 1}, PolyMatrix([[0, 0, 0, 0], [1, S, 0, 0]]))
        self.assertEqual([self.check(chance, free, wires) for wires in (["a", "b"], ["b", "a"], ["a"], [])],
                         [0, 0, None, None])
        self.assertEqual(machine_of_net(free, ["b", "a"]).ins, (1, 2))
        self.assertEqual(machine_of_net(free, ["a", "b"]).outs, ())

    def test_items_that_hang_on_later_ones(self):
        chance = random.Random(363)
        # Of a later turn: no. Within a turn: yes.
        ahead = net("(u, y)\nu = delay 1 y\n")
        self.assertEqual([self.check(chance, ahead, wires) for wires in (["u"], ["y"])], [None, 1])
        within = ahead.over(2)
        self.assertEqual([self.check(chance, within, wires) for wires in (["u"], ["y"])], [None, 1])
        inside = net("(u, y)\np, q = deal u\ny = weave q p\n")
        self.assertEqual([self.check(chance, inside, wires) for wires in (["u"], ["y"])], [0, 0])
        both = net("(u, y)\np, q = deal u\ny = weave q r\nr = delay 1 p\n")
        self.assertEqual([self.check(chance, both, wires) for wires in (["u"], ["y"])], [1, None])

    def test_a_lower_degree_shows_only_in_sums_of_rows(self):
        chance = random.Random(364)
        # Each row has a greater degree than the determinant tells.
        rows = PolyMatrix([[S * S, S * S * S + 1, 1, 0], [1, S, 0, 1]])
        one = Net(["a", "b", "u", "v"], [], {name: 1 for name in "abuv"}, rows)
        self.assertEqual(self.check(chance, one, ["u", "v"]), None)
        one = Net(["a", "b", "u", "v"], [], {name: 1 for name in "abuv"}, PolyMatrix([[S * S, S * S * S + S, 1, 0],
                                                                                   [1, S, 0, 0]]))
        self.assertEqual(self.check(chance, one, ["u", "v"]), 1)

    def test_machines_of_texts(self):
        """The ins of a living text can be driven; what it begins with is free."""
        chance = random.Random(365)
        text = read_texts("text a (u, v -> y, z)\nd = delay [1, 2] y\ny = u + 1/3*d + 0*v\ne = delay [5] v\nz = hold 2 e\n")[0]
        one = net_of(text)
        self.assertEqual([self.check(chance, one, wires) for wires in (["u", "v"], ["v", "u"], ["u"])], [3, 3, None])
        self.assertEqual(machine_of_net(one, ["v", "u"]).outs, (1, 2))

    def test_by_chance(self):
        chance = random.Random(366)
        kinds = {}
        for number in range(80):
            one = random_net(chance, 6) if number % 2 else random_told_net(chance, range(1, 6))[0]
            for many in range(len(one.ends) + 1):
                for wires in itertools.permutations(one.ends, many):
                    free = self.check(chance, one, list(wires))
                    kinds[free] = kinds.get(free, 0) + 1
        self.assertGreater(len(kinds), 5)

    def test_wrong_inputs(self):
        half = net("(u, y)\n0 = y[1] - 1/2*y - u + h\nh = 2*u\n")
        for call in (can_drive, free_beginnings, machine_of_net):
            self.each_bad(lambda value: call(value, ["u"]))
            for value in (None, 5, "u", {}, True, {"u": 1}):
                self.bad(value, lambda: call(half, value))
            for value in ("h", "q", "", None, 5, True, ["u"], ("u",)):
                self.bad(value, lambda: call(half, ["y", value]))
            for value in (["u", "u"], ("y", "u", "y")):
                self.bad(value, lambda: call(half, value))
            self.bad("net", lambda: call("net", "wires"))
        self.assertTrue(can_drive(net=half, wires=("u",)))
        wires = ["u"]
        machine_of_net(half, wires)
        self.assertEqual([wires, machine_of_net(half, wires) == machine_of_net(half, ("u",))], [["u"], True])


class Sizes(Case):
    """[123]."""

    def test_48_columns(self):
        chance = random.Random(367)
        rows, names = [], ["u"]
        for number in range(23):
            before = f"d{number - 1}" if number else "u"
            rows.append(("sum", f"y{number}", ((ONE, before), (Ratio(1, 2), f"d{number}"), (Ratio(-1), "d22"))))
            rows.append(("delay", f"d{number}", 1, f"y{number}"))
            names += [f"y{number}", f"d{number}"]
        whole = net_of_statements(names, rows)
        self.assertEqual(free_beginnings(whole, ["u"]), 23)
        self.assertFalse(can_drive(whole, ["y22"]))
        ends = net_of_statements(["u", "d22"], rows)
        machine = machine_of_net(ends, ["u"])
        self.assertEqual([machine.size(), free_beginnings(ends, ["u"])], [23, 23])
        told = machine.run(random_columns(chance, machine, 60))
        self.assertEqual(len(told), 60)
        far = net("(x, y)\ny = delay 9999 x\n")
        self.assertEqual([free_beginnings(far, ["x"]), can_drive(far, ["y"])], [9999, False])


if __name__ == "__main__":
    unittest.main()
