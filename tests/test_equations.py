"""[52], [53], [108]: nets told by statements, by lines and by texts, and the equations of rules."""

import random
import unittest
from fractions import Fraction

from allstreams.equations import net_of, net_of_statements, read_net, rule_rows
from allstreams.errors import Apart, BadValue, HasSource, NotAText, StreamError, TooMany, Unpaced
from allstreams.forms import alike_nets
from allstreams.nets import Net
from allstreams.paces import paces
from allstreams.polymatrices import PolyMatrix
from allstreams.polys import Poly
from allstreams.ratios import Ratio
from allstreams.reader import read_texts
from allstreams.turns import run_turns
from allstreams.wiring import Text
from tests.files_oracle import is_beginning, is_net
from tests.helpers import STRANGE, Case, fraction
from tests.random_nets import left_of_row, left_of_statement, random_told_net
from tests.random_texts import living_text

ONE, HALF = Ratio(1), Ratio(1, 2)
S = Poly([0, 1])
FORTY = "a" * 40


def clock_of(statement):
    """A wire with whose items a statement goes."""
    kind = statement[0]
    if kind == "rule":
        return statement[1][0][1]
    if kind == "deal":
        return statement[1][0]
    return statement[2][0] if kind == "weave" else statement[1]


def left_of_statements(statements, told, streams, turns):
    return sorted(abs(item) for statement in statements for item in
                  left_of_statement(statement, streams, range(turns * told[clock_of(statement)])))


class Statements(Case):
    def one(self, ends, statements, columns, rows):
        net = net_of_statements(ends, statements)
        self.assertEqual(net.columns(), tuple(columns))
        self.assertEqual([sorted_rows(net.rows), type(net)], [sorted_rows(PolyMatrix(rows, len(columns))), Net])

    def test_each_kind(self):
        x, y = ("x", 0), ("y", 0)
        self.one(["x", "y"], [("sum", "y", ((HALF, "x"), (ONE, "x"), (ONE, "y")))], [x, y], [[Ratio(-3, 2), 0]])
        self.one(["x", "y"], [("delay", "y", 1, "x")], [x, y], [[-1, S]])
        self.one(["x", "y"], [("delay", "y", 9999, "x")], [x, y], [[-1, Poly([0] * 9999 + [1])]])
        self.one(["x", "y"], [("thin", "y", 2, 1, "x")], [x, ("x", 1), y], [[0, -1, 1]])
        self.one(["y", "x"], [("stretch", "y", 2, "x")], [y, ("y", 1), x], [[1, 0, -1], [0, 1, 0]])
        self.one(["y", "x"], [("hold", "y", 3, "x")], [y, ("y", 1), ("y", 2), x],
                 [[1, 0, 0, -1], [0, 1, 0, -1], [0, 0, 1, -1]])
        self.one(["x"], [("deal", ("a", "b"), "x")], [("a", 0), ("b", 0), x, ("x", 1)], [[1, 0, -1, 0], [0, 1, 0, -1]])
        self.one(["x"], [("deal", ("a", "a"), "x")], [("a", 0), x, ("x", 1)], [[1, -1, 0], [1, 0, -1]])
        self.one(["y"], [("weave", "y", ("a", "b"))], [("a", 0), ("b", 0), y, ("y", 1)], [[-1, 0, 1, 0], [0, -1, 0, 1]])
        self.one(["y"], [("weave", "y", ("a", "a"))], [("a", 0), y, ("y", 1)], [[-1, 1, 0], [-1, 0, 1]])
        self.one(["x", "y"], [("rule", ((ONE, "y", 2), (-HALF, "x", 0), (ONE, "y", 0), (HALF, "x", 0)))], [x, y],
                 [[0, S * S + 1]])
        self.one(["x"], [("rule", ((Ratio(0), "x", 9999),))], [x], [[0]])
        self.one(["x"], [("rule", ((Ratio(3), "x", 9999),))], [x], [[Poly([0] * 9999 + [3])]])

    def test_several_paces(self):
        # A delay and a rule of wires with three items a turn.
        statements = [("hold", "y", 3, "x"), ("delay", "z", 4, "y"), ("rule", ((ONE, "z", 2), (ONE, "y", 7)))]
        net = net_of_statements(["x"], statements)
        self.assertEqual(net.hidden, ("y", "z"))
        self.assertEqual(net.paces, {"y": 3, "z": 3, "x": 1})
        self.assertEqual(sorted_rows(net.rows), sorted_rows(PolyMatrix([
            [1, 0, 0, 0, 0, 0, -1], [0, 1, 0, 0, 0, 0, -1], [0, 0, 1, 0, 0, 0, -1],
            [-1, 0, 0, 0, S, 0, 0], [0, -1, 0, 0, 0, S, 0], [0, 0, -1, S * S, 0, 0, 0],
            [0, S * S, 0, 0, 0, 1, 0], [0, 0, S * S, S, 0, 0, 0], [S * S * S, 0, 0, 0, S, 0, 0],
        ])))

    def test_lists_may_stand_for_tuples(self):
        first = net_of_statements(("x", "y"), (["sum", "y", [[HALF, "x"]]], ["rule", [[ONE, "y", 1]]]))
        second = net_of_statements(["x", "y"], [("sum", "y", ((HALF, "x"),)), ("rule", ((ONE, "y", 1),))])
        self.assertEqual(first.rows, second.rows)

    def test_the_order_of_hidden_wires(self):
        net = net_of_statements(["e"], [("sum", "d", ((ONE, "c"), (ONE, "e"))), ("deal", ("b", "a"), "f"),
                                        ("sum", "c", ((ONE, "a"),))])
        self.assertEqual([net.ends, net.hidden], [("e",), ("d", "c", "b", "a", "f")])
        self.assertEqual(net.paces, {"d": 1, "c": 1, "b": 1, "a": 1, "f": 2, "e": 1})

    def test_ends_told_by_several_statements(self):
        net = net_of_statements(["y", "x"], [("sum", "y", ((ONE, "x"),)), ("delay", "y", 1, "x")])
        self.assertEqual(sorted_rows(net.rows), sorted_rows(PolyMatrix([[1, -1], [S, -1]])))

    def test_by_chance(self):
        chance = random.Random(331)
        kinds = set()
        for _ in range(120):
            net, ends, statements = random_told_net(chance, range(1, 6), 20)
            kinds |= {statement[0] for statement in statements}
            self.assertEqual(net.ends, tuple(ends))
            streams = {name: [Fraction(chance.randint(-9, 9), chance.randint(1, 3)) for _ in range(300)]
                       for name in net.paces}
            left = sorted(abs(item) for row in net.rows.rows for item in left_of_row(net, row, streams, 3))
            self.assertEqual(left, left_of_statements(statements, net.paces, streams, 3))
        self.assertEqual(len(kinds), 8)

    def test_errors_and_their_order(self):
        sums = [("sum", "y", ((ONE, "x"),))]
        self.bad(sums, lambda: net_of_statements(["q"], sums))
        self.bad(sums, lambda: net_of_statements(["x", "q", "r"], sums))
        empty = []
        self.bad(empty, lambda: net_of_statements(["x"], empty))
        apart = [*sums, ("sum", "b", ((ONE, "a"),)), ("thin", "b", 2, 0, "b")]
        self.raises(Apart, lambda: net_of_statements(["x"], apart), name="b")
        self.raises(Apart, lambda: net_of_statements(["x", "a"], apart), name="a")
        self.raises(Apart, lambda: net_of_statements(["a"], apart), name="y")
        self.raises(Apart, lambda: net_of_statements(["a", "x", "b"], apart), name="x")
        self.raises(Unpaced, lambda: net_of_statements(["x"], [*sums, ("thin", "y", 2, 0, "x"), ("hold", "y", 2, "y")]),
                    at=2)
        self.raises(Unpaced, lambda: net_of_statements(["x"], [("thin", "x", 2, 0, "x")]), at=1)
        self.raises(Unpaced, lambda: net_of_statements(["x"], [("hold", "x", 2, "y"), ("rule", ((ONE, "y", 3), (ONE, "x", 0)))]),
                    at=2)
        self.raises(TooMany, lambda: net_of_statements(["x"], [("hold", "x", 48, "y")]), most=48)
        self.assertEqual(net_of_statements(["x"], [("hold", "x", 47, "y")]).rows.width, 48)
        # Not both can be true, but the paces come first.
        self.raises(Unpaced, lambda: net_of_statements(["x"], [("hold", "x", 60, "y"), ("hold", "x", 59, "y")]), at=2)

    def test_wrong_ends(self):
        sums = [("sum", "y", ((ONE, "x"),))]
        for value in (None, 5, "x", {}, True):
            self.bad(value, lambda: net_of_statements(value, sums))
        for value in ("", "X", "deal", 5, None, ["x"], "a" * 41):
            self.bad(value, lambda: net_of_statements(["x", value], sums))
        for value in ([], (), ["x", "x"]):
            self.bad(value, lambda: net_of_statements(value, sums))
        self.bad("E", lambda: net_of_statements(["E"], "s"))

    def test_wrong_statements(self):
        for value in (None, 5, "x", {}, True):
            self.bad(value, lambda: net_of_statements(["x"], value))
        fine = ("sum", "x", ((ONE, "y"),))
        long = Ratio(10 ** 300)
        for value in (
            (), [], "sum", None, 5, ("sum",), ("sum", "x"), ("sum", "x", ()), ("sum", "x", ((1, "y"),)), ("add", "x", "y"),
            ("sum", "x", ((ONE, "Y"),)), ("sum", "x", ((long, "y"),)), ("sum", "x", ((ONE, "y", 0),)),
            ("delay", "x", 0, "y"), ("delay", "x", 10000, "y"), ("delay", "x", True, "y"), ("delay", "x", (ONE,), "y"),
            ("delay", "x", -1, "y"), ("delay", "x", 1), ("delay", "x", Ratio(1), "y"), ("source", "x", (ONE,)),
            ("call", ("x",), "a", ("y",)), ("thin", "x", 1, 0, "y"), ("thin", "x", 61, 0, "y"), ("thin", "x", 2, 2, "y"),
            ("stretch", "x", 1, "y"), ("hold", "x", 61, "y"), ("deal", ("x",), "y"), ("deal", "x", "y"),
            ("deal", tuple(["x"] * 61), "y"), ("weave", "x", ("y",)), ("weave", "x", "y"), ("rule", ()), ("rule",),
            ("rule", ((ONE, "x"),)), ("rule", ((ONE, "x", -1),)), ("rule", ((ONE, "x", 10000),)), ("rule", ((1, "x", 0),)),
            ("rule", ((ONE, "x", True),)), ("rule", ((ONE, "x", 0),), 5), ("rule", "x"),
            ("rule", ((long, "x", 0),)), (5, "x", "y"), (("sum",), "x", "y"), ("net", "x", "y"),
        ):
            with self.subTest(value=value):
                self.bad(value, lambda: net_of_statements(["x"], [fine, value, 5]))

    def test_arguments(self):
        ends, statements = ["x"], [["sum", "x", [[ONE, "y"]]]]
        net = net_of_statements(ends=ends, statements=statements)
        self.assertEqual([ends, statements], [["x"], [["sum", "x", [[ONE, "y"]]]]])
        ends.append("y")
        statements[0][2].append((ONE, "z"))
        self.assertEqual([net.ends, net.rows], [("x",), PolyMatrix([[-1, 1]])])


def sorted_rows(matrix):
    """Rows up to their signs, in some order."""
    told = [[[str(part) for part in entry.parts] for entry in row] for row in matrix.rows]
    other = [[[str(part) for part in (-entry).parts] for entry in row] for row in matrix.rows]
    return sorted(max(one, two) for one, two in zip(told, other))


class Rules(Case):
    def net(self):
        return net_of_statements(["x", "y"], [("hold", "y", 2, "x"), ("sum", "z", ((ONE, "y"),))])

    def test_rows(self):
        net = self.net()
        self.assertEqual(net.columns(), (("z", 0), ("z", 1), ("x", 0), ("y", 0), ("y", 1)))
        self.assertEqual(rule_rows(net, [(ONE, "x", 0)]), PolyMatrix([[0, 0, 1, 0, 0]]))
        self.assertEqual(rule_rows(net, [(HALF, "x", 3)]), PolyMatrix([[0, 0, HALF * S * S * S, 0, 0]]))
        self.assertEqual(rule_rows(net, [(ONE, "y", 1), (-HALF, "z", 4), (ONE, "y", 1)]), PolyMatrix([
            [-HALF * S * S, 0, 0, 0, 2], [0, -HALF * S * S, 0, 2 * S, 0]]))
        self.assertEqual(rule_rows(net=net, terms=((ONE, "y", 0), (-ONE, "y", 0))), PolyMatrix([[0] * 5, [0] * 5]))
        far = rule_rows(net, [(ONE, "y", 9999)])
        self.assertEqual([far.rows[0][4], far.rows[1][3]], [Poly([0] * 4999 + [1]), Poly([0] * 5000 + [1])])

    def test_wrong_inputs(self):
        net = self.net()
        self.each_bad(lambda value: rule_rows(value, [(ONE, "x", 0)]))
        for value in (None, 5, "x", {}, True):
            self.bad(value, lambda: rule_rows(net, value))
        for value in ((), "x", None, 5, (1, "x", 0), (ONE, "q", 0), (ONE, "x", -1), (ONE, "x", 10000), (ONE, "x", True),
                      (ONE, "x"), (ONE, "x", 0, 0), (Ratio(10 ** 300), "x", 0), (ONE, ["x"], 0), (ONE, 5, 0)):
            self.bad(value, lambda: rule_rows(net, [(ONE, "x", 0), value]))
        for value in ([], (), [(ONE, "x", 0), (ONE, "y", 0)]):
            self.bad(value, lambda: rule_rows(net, value))


class Lines(Case):
    def check(self, text, name, ends, statements):
        told = read_net(text)
        self.assertEqual([type(told), told[0], told[1].ends], [tuple, name, tuple(ends)])
        net = net_of_statements(ends, statements)
        self.assertEqual([told[1].columns(), told[1].rows], [net.columns(), net.rows])

    def test_texts(self):
        self.check("net a (x)\n0=x", "a", ["x"], [("rule", ((ONE, "x", 0),))])
        self.check("\n # r\n  net  full.1 (a,b , c)\n a=b - 1/2 * c+0*b\n# more\nb = delay 12 c\n0 = - 1/2*a [ 10 ] + b[0]-c\n"
                   " d = thin 2 1 a \n\n", "full.1", ["a", "b", "c"], [
                       ("sum", "a", ((ONE, "b"), (-HALF, "c"), (Ratio(0), "b"))), ("delay", "b", 12, "c"),
                       ("rule", ((-HALF, "a", 10), (ONE, "b", 0), (-ONE, "c", 0))), ("thin", "d", 2, 1, "a")])
        self.check("net b (y)\ny = stretch 3 x\nz = hold 3 x\np , q,r = deal y\ny = weave p q r", "b", ["y"], [
            ("stretch", "y", 3, "x"), ("hold", "z", 3, "x"), ("deal", ("p", "q", "r"), "y"), ("weave", "y", ("p", "q", "r"))])
        self.check("net b (y)\n0 = 3*y[9999] - x\ny = delay 9999 x", "b", ["y"],
                   [("rule", ((Ratio(3), "y", 9999), (-ONE, "x", 0))), ("delay", "y", 9999, "x")])
        self.check("net lives (late)\nlate = -late", "lives", ["late"], [("sum", "late", ((-ONE, "late"),))])

    def wrong(self, text):
        """The text with a "?" ahead of the first sign that is wrong, at the end if it is cut short."""
        at = text.index("?")
        self.raises(NotAText, lambda: read_net(text[:at] + text[at + 1:]), at=at)

    def test_where_lines_are_wrong(self):
        head, body = "net a (u, y)\n", "net a (u, y)\ny = u\n"
        for text in ("?", "?x", "n?", "ne?x", "net?\n", "net?(", "net ?1", "net a?\n", "net net? (", "net a ?[", "net a (?)",
                     "net a (u)\ny = u\n?)", "net a (u, u?)", "net a (u?; y)", "net a (u) ?x", "net a (u?->",
                     f"net {FORTY}?b (u)", "?text a (u -> y)", "net a (u)\n?", "net a (u)\n#\n ?", "# \n?"):
            self.wrong(text)
        for line in ("y ?+", "y = ?\n", "y = u ?v", "y = 2?u", "y = 2*?2", "y = u?[", "y = delay?", "y = delay ?0",
                     "y = delay ?[0] u", "y = delay 1?u", "y = delay 1234?5", "y = delay 1 ?2", "y = source? [1]",
                     "y = b?(u)", "y, z = ?b(u)", "y, z = dea?n u", "y = deal? u", "y = thin 1? ", "y = thin 2 ?2",
                     "y = thin 6?1", "y = weave u?\n", "y = stretch 6?1 u", "net? b (u)", "text? b (u -> y)", "?1 = y",
                     "0?0 = y", "0 ?y", "0 = 0 ?= ", "0 = y?, u", "0 = y[?]", "0 = y[0?1]", "0 = y[1234?5]", "0 = y[1?y]",
                     "0 = y[1] ?[2]", "0 = y[?-1]", "0 = ?[1]", "0 = 2*y[1?/2]", "0 = ?\n", "0 = u -?\n", "0 = -?-u", "0?, x"):
            with self.subTest(line=line):
                self.wrong(body + line)
                self.wrong(head + line)
        names = ", ".join(f"n{number}" for number in range(60))
        self.wrong(f"{head}{names}?, x = deal u")

    def test_names_again_and_first_and_last_places(self):
        self.raises(NotAText, lambda: read_net("net a (u, v, u"), at=14)
        self.raises(NotAText, lambda: read_net("net a (u, v, u1)\nv = u\n?"), at=23)
        self.raises(NotAText, lambda: read_net("!net a (u)\nu = u"), at=0)
        self.raises(NotAText, lambda: read_net("net a (u)\nu = u!"), at=15)
        self.raises(NotAText, lambda: read_net(""), at=0)
        # The lines come ahead of all faults.
        self.raises(NotAText, lambda: read_net("net a (q)\nu = v\nu = thin 2 0 u\n("), at=31)

    def test_faults(self):
        with self.assertRaises(BadValue) as caught:
            read_net("net a (q)\nu = 2*v\n0 = v[1]")
        self.assertEqual(caught.exception.value, (("sum", "u", ((Ratio(2), "v"),)), ("rule", ((ONE, "v", 1),))))
        self.assertEqual(type(caught.exception.value), tuple)
        self.raises(Apart, lambda: read_net("net a (u)\nu = v\nx = thin 2 0 x\n"), name="x")
        self.raises(Unpaced, lambda: read_net("net a (u)\nu = v\nu = thin 2 0 v\n"), at=2)
        self.raises(TooMany, lambda: read_net("net a (u)\nu = hold 48 v\n"), most=48)

    def test_random_changes(self):
        chance = random.Random(332)
        lines = ["y = u", "y=u - 1/2*v+0*w", "z = delay 120 u", "y = thin 16 1 u", "y = stretch 16 u", "y = hold 60 u",
                 "y, z = deal u", "y = weave u v w", "0 = y[10] - 1/2*u + w [ 0 ]", "0=-y", "# remark", "", "  ",
                 "y = source [1]", "y = b(u)", "net b (u)"]
        signs = ["text", "thin", "deal", "net", " ", "\n", "delay", *"0129uy.,=+-*/()[]>#"]
        right = wrong = 0
        for _ in range(200):
            text = "\n".join(["net a (u, y)", "y = u", *[chance.choice(lines) for _ in range(chance.randint(0, 3))]])
            for _ in range(chance.choice([0, 1, 1, 2])):
                place = chance.randint(0, len(text))
                text = text[:place] + chance.choice([*signs, "", ""]) + text[place + chance.randint(0, 2):]
            text = text[:chance.choice([len(text), len(text), chance.randint(0, len(text))])]
            with self.subTest(text=text):
                place = place_of(text)
                self.assertEqual(place is None, is_net(text))
                if place is None:
                    right += 1
                else:
                    wrong += 1
                    self.assertTrue(is_beginning(text[:place], is_net))
                    self.assertFalse(place < len(text) and is_beginning(text[:place + 1], is_net))
        self.assertGreater(min(right, wrong), 25)

    def test_wrong_inputs(self):
        self.each_bad(read_net, but=[value for value in STRANGE if isinstance(value, str)])
        for value in ("net a (u)\n\tu = u", "net a (\xe9)", "\r", "x" * 20001, "net a (u)\nu = u\n" + " " * 19990):
            self.bad(value, lambda: read_net(value))
        long = "net a (u)\nu = u\n"
        self.assertEqual(read_net(text=long + "#" * (20000 - len(long)))[0], "a")


def place_of(text):
    """Where the text is wrong, None if it is that of a net, with whatever faults."""
    try:
        read_net(text)
    except NotAText as error:
        return error.at
    except StreamError:
        pass
    return None


class OfTexts(Case):
    def test_delays_and_calls(self):
        echo, twice = read_texts("text echo (u -> y)\ny = u + 1/2*d\nd = delay [0, -3] y\n"
                                 "text twice (u -> z, w)\nv = echo(u)\nz = echo(v)\nw = thin 2 1 z\n")
        net = net_of(echo)
        self.assertEqual([net.ends, net.hidden, net.paces], [("u", "y"), ("d",), {"d": 1, "u": 1, "y": 1}])
        self.assertTrue(alike_nets(net, read_net("net a (u, y)\ny = u + 1/2*d\nd = delay 2 y")[1]))
        both = net_of(text=twice)
        self.assertEqual([both.ends, set(both.hidden)], [("u", "z", "w"), {"v", "v.d", "z.d"}])
        self.assertEqual(both.paces, paces(twice))

    def test_streams_of_texts(self):
        chance = random.Random(333)
        done = 0
        while done < 40:
            text, told = living_text(chance, range(1, 6), 20)
            if any(row[0] == "source" for row in text.statements):
                self.raises(HasSource, lambda: net_of(text),
                            name=[row[1] for row in text.statements if row[0] == "source"][0])
                continue
            net = net_of(text)
            self.assertEqual([net.ends, net.paces], [text.ins + text.outs, told])
            turns = 6 + net.rows.degree()
            wired = Text(text.name, text.ins, [name for name in text.wires() if name not in text.ins], text.statements)
            ins = {name: [chance.randint(-9, 9) for _ in range(turns * told[name])] for name in text.ins}
            streams = {name: [fraction(item) for item in items] for name, items in run_turns(wired, ins, turns).items()}
            streams.update({name: [Fraction(item) for item in items] for name, items in ins.items()})
            for row in net.rows.rows:
                self.assertEqual(left_of_row(net, row, streams, 5), [0] * 5)
            done += 1

    def test_errors(self):
        odd, both, late = read_texts("text odd (u -> y)\nh = hold 2 u\ny = u + h\ntext both (u -> y)\ny = u + s\n"
                                     "s = source [1]\nt = source [2]\nz = thin 2 0 y\ny1 = z + y\nr = t + y\n"
                                     "text late (u -> y)\ny = hold 48 u")
        self.raises(Unpaced, lambda: net_of(odd), at=2)
        self.raises(HasSource, lambda: net_of(both), name="s")
        self.raises(TooMany, lambda: net_of(late), most=48)
        self.assertEqual(net_of(read_texts("text late (u -> y)\ny = hold 47 u")[0]).rows.width, 48)
        # A text that stands still has a net.
        stuck = read_texts("text stuck (x -> w)\nw = weave v x\nv = thin 2 1 w")[0]
        self.assertEqual(net_of(stuck).ends, ("x", "w"))
        long = Text("a", ["u"], ["y"], [("delay", "y", (ONE,) * 10001, "u")])
        self.assertEqual(net_of(long).rows.rows[0][1], Poly([0] * 10001 + [1]))

    def test_wrong_inputs(self):
        self.each_bad(net_of)


if __name__ == "__main__":
    unittest.main()
