"""[65], [119]: files, read and written, their texts, their nets and their faults."""

import random
import unittest

from allstreams.equations import net_of_statements
from allstreams.errors import (
    Apart, BadValue, NoGiver, NotAFile, StreamError, TooMany, TwoGivers, Unknown, Unpaced, Within,
)
from allstreams.files import file_text, nets_of, read_file, texts_of
from allstreams.nets import Net
from allstreams.ratios import Ratio
from allstreams.reader import read_texts
from allstreams.wiring import Text
from tests.files_oracle import is_beginning, is_file
from tests.helpers import STRANGE, Case
from tests.random_nets import random_told_net
from tests.random_texts import random_text

ONE, HALF = Ratio(1), Ratio(1, 2)
FILE = ("# two\nnet half (u, y)\n0 = y[1] - 1/2*y - u\ntext pair (u -> z)\nz = copy(u)\ntext copy (u -> y)\ny = u\n")
PAIR = ("text", "pair", ("u",), ("z",), (("call", ("z",), "copy", ("u",)),))
COPY = ("text", "copy", ("u",), ("y",), (("sum", "y", ((ONE, "u"),)),))
NET = ("net", "half", ("u", "y"), (("rule", ((ONE, "y", 1), (-HALF, "y", 0), (-ONE, "u", 0))),))


class Reading(Case):
    def test_entries(self):
        self.assertEqual(read_file(FILE), [NET, PAIR, COPY])
        told = read_file("text all (u, v -> y)\ny = u-1/2 * v+0*u\nd = delay [ 1,-2/4 ] y\ns=source [3]\nt = thin 3 2 y\n"
                         "r = stretch 2 y\nh = hold 2 y\na , b = deal y\nw = weave a b\ny,z=all(u, v)\nz = tick()\n"
                         "net n (a)\na=b\na = delay 9999 b\nc = thin 2 0 a\nc, d = deal a\na = weave c d\n0=-a[0]+2*b [ 7 ]\n")
        self.assertEqual(told, [
            ("text", "all", ("u", "v"), ("y",), (
                ("sum", "y", ((ONE, "u"), (-HALF, "v"), (Ratio(0), "u"))), ("delay", "d", (ONE, -HALF), "y"),
                ("source", "s", (Ratio(3),)), ("thin", "t", 3, 2, "y"), ("stretch", "r", 2, "y"), ("hold", "h", 2, "y"),
                ("deal", ("a", "b"), "y"), ("weave", "w", ("a", "b")), ("call", ("y", "z"), "all", ("u", "v")),
                ("call", ("z",), "tick", ()))),
            ("net", "n", ("a",), (
                ("sum", "a", ((ONE, "b"),)), ("delay", "a", 9999, "b"), ("thin", "c", 2, 0, "a"), ("deal", ("c", "d"), "a"),
                ("weave", "a", ("c", "d")), ("rule", ((-ONE, "a", 0), (Ratio(2), "b", 7))))),
        ])
        self.check_kinds(told)

    def check_kinds(self, told):
        self.assertIs(type(told), list)
        for entry in told:
            for part in (entry, *entry[2:], *entry[-1]):
                self.assertIs(type(part), tuple)

    def test_files_without_entries(self):
        for text in ("", " ", "\n", "# nothing", "\n  \n # text a (u -> y)\n\n"):
            self.assertEqual(read_file(text), [])
        self.assertEqual([file_text([]), texts_of([]), nets_of([])], ["", {}, {}])

    def wrong(self, text, line, at):
        self.raises(NotAFile, lambda: read_file(text), line=line, at=at)

    def test_where_files_are_wrong(self):
        self.wrong("?", 1, 0)
        self.wrong("y = u", 1, 0)
        self.wrong("tent", 1, 2)
        self.wrong("nee", 1, 2)
        self.wrong("text a (u -> y)\n\ny = ?", 3, 4)
        self.wrong("text a (u -> y)", 1, 15)
        self.wrong("text a (u -> y)\n", 2, 0)
        self.wrong("text a (u -> y)\n# only\n  ", 3, 2)
        self.wrong(FILE + "y = u ?", 8, 6)
        self.wrong(FILE + "# text ?\ny = u\n?", 10, 0)
        self.wrong(FILE + "0 = u", 8, 0)
        self.wrong("net n (u)\n0 = u\ny = delay [1] u", 3, 10)
        self.wrong("net n (u)\n0 = u\ny = echo(u)", 3, 8)
        self.wrong("net n (u)\n0 = u\ny = source [1]", 3, 10)
        self.wrong("text t (u -> y)\ny = u\ny = delay 2 u", 3, 10)
        self.wrong("text t (u -> y)\ny = u[1]", 2, 5)
        self.wrong("net n (u)\ntext t (u -> y)\ny = u", 2, 4)
        self.wrong("text t (u -> y)\nnet n (u)\n0 = u", 2, 3)
        # A name that was one before, of either sort.
        self.wrong("net n (u)\n0 = u\ntext n", 3, 6)
        self.wrong("text n (u -> y)\ny = u\nnet n (u)", 3, 5)
        self.wrong("text n (u -> y)\ny = u\ntext n1 (u -> y)\ny = u\nnet n1", 5, 6)

    def test_random_changes(self):
        chance = random.Random(431)
        lines = ["y = u", "y=u - 1/2*v", "z = delay 12 u", "z = delay [1] u", "y = thin 16 1 u", "y, z = deal u", "y = b(u)",
                 "0 = y[10] - 1/2*u", "# remark", "", "net b (u, v)", "text c (u -> y)", "text d (-> y)"]
        signs = ["text", "net", " ", "\n", "delay", *"0129uy.,=+-*/()[]>#"]
        right = wrong = 0
        for _ in range(200):
            text = "\n".join([chance.choice(["net a (u, y)", "text a (u -> y)", "# a"]), "y = u",
                              *[chance.choice(lines) for _ in range(chance.randint(0, 4))]])
            for _ in range(chance.choice([0, 0, 1, 2])):
                place = chance.randint(0, len(text))
                text = text[:place] + chance.choice([*signs, "", ""]) + text[place + chance.randint(0, 2):]
            text = text[:chance.choice([len(text), len(text), chance.randint(0, len(text))])]
            with self.subTest(text=text):
                try:
                    read_file(text)
                    at = None
                except NotAFile as error:
                    at = sum(len(line) + 1 for line in text.split("\n")[:error.line - 1]) + error.at
                    self.assertLessEqual(error.at, len(text.split("\n")[error.line - 1]))
                self.assertEqual(at is None, is_file(text))
                if at is None:
                    right += 1
                else:
                    wrong += 1
                    self.assertTrue(is_beginning(text[:at], is_file))
                    self.assertFalse(at < len(text) and is_beginning(text[:at + 1], is_file))
        self.assertGreater(min(right, wrong), 25)

    def test_wrong_inputs(self):
        self.each_bad(read_file, but=[value for value in STRANGE if isinstance(value, str)])
        for value in ("\t", "\x7f", "\xe9", "#" * 20001):
            self.bad(value, lambda: read_file(value))
        self.assertEqual(read_file(text="#" * 20000), [])


class Writing(Case):
    def test_lines(self):
        self.assertEqual(file_text(entries=[NET, PAIR, COPY]), FILE[len("# two\n"):])
        told = ("text all (u, v -> y)\ny = u - 1/2*v + 0*u\nd = delay [1, -1/2] y\ns = source [3]\nt = thin 3 2 y\n"
                "r = stretch 2 y\nh = hold 2 y\na, b = deal y\nw = weave a b\ny, z = all(u, v)\nz = tick()\n"
                "text tick (-> y)\ny = source [-7/3]\n"
                "net n (a, b)\na = -b\na = delay 9999 b\nc = thin 2 0 a\nc, d = deal a\na = weave c d\ne = stretch 2 b\nf = hold 3 b\n"
                "0 = -a + 2*b[7] - 1/3*b[9999] + 0*a\n")
        self.assertEqual(file_text(read_file(told)), told)

    def test_lists_for_tuples(self):
        entry = ["net", "n", ["a"], [["rule", [[ONE, "a", 0]]], ["deal", ["a", "b"], "c"]]]
        self.assertEqual(file_text((entry,)), "net n (a)\n0 = a\na, b = deal c\n")
        entry = ["text", "n", [], ["y"], [["source", "y", [ONE]], ["call", ["a"], "q", []]]]
        self.assertEqual(file_text([entry]), "text n (-> y)\ny = source [1]\na = q()\n")

    def test_faults_do_not_matter(self):
        entries = [("text", "a", ("u",), ("u",), (("call", ("u", "u"), "none", ()),)), ("net", "b", ("q",), (("sum", "y", ((ONE, "x"),)),))]
        self.assertEqual(file_text(entries), "text a (u -> u)\nu, u = none()\nnet b (q)\ny = x\n")

    def test_by_chance(self):
        chance = random.Random(432)
        for _ in range(60):
            entries = []
            for number in range(chance.randint(0, 4)):
                if chance.random() < 0.5:
                    text = random_text(chance, range(1, 6))
                    entries.append(("text", f"t{number}", text.ins, text.outs, text.statements))
                else:
                    _, ends, statements = random_told_net(chance, range(1, 5))
                    entries.append(("net", f"n{number}", tuple(ends), tuple(statements)))
            text = file_text(entries)
            self.assertEqual(read_file(text), entries)
            self.assertEqual(file_text(read_file(text)), text)
            self.assertEqual([list(texts_of(entries)), list(nets_of(entries))],
                             [[entry[1] for entry in entries if entry[0] == sort] for sort in ("text", "net")])

    def test_wrong_inputs(self):
        many = tuple([("sum", "y", ((ONE, "u"),))])
        for call in (file_text, texts_of, nets_of):
            for value in (None, 5, "x", {}, True):
                self.bad(value, lambda: call(value))
            for value in (
                None, 5, "text", (), {}, ("text",), ("net", "a", ("u",)), ("text", "a", ("u",), ("y",)), ("text", "a", ("u",), (), many),
                ("text", "a", ("u", "u"), ("y",), many), ("text", "a", ("u",), ("y", "y"), many), ("text", "a", "u", ("y",), many),
                ("text", "text", ("u",), ("y",), many), ("text", "a", ("u",), ("y",), ()), ("text", "a", ("U",), ("y",), many),
                ("text", "a", ("u",), ("y",), (("rule", ((ONE, "u", 0),)),)), ("text", "a", ("u",), ("y",), (("sum", "y", ((1, "u"),)),)),
                ("net", "a", (), many), ("net", "a", ("u", "u"), many), ("net", "a", ("u",), ()), ("net", 5, ("u",), many),
                ("net", "a", ("u",), (("source", "u", (ONE,)),)), ("net", "a", ("u",), (("call", ("u",), "b", ()),)),
                ("net", "a", ("u",), (("delay", "u", (ONE,), "u"),)), ("text", "a", ("u",), ("y",), (("delay", "y", 3, "u"),)),
                ("file", "a", ("u",), many), ("net", "a", ("u",), ("y",), many), ("net", "a", ("u",), (("delay", "u", 10000, "u"),)),
                ("text", "a", ("u",), ("y",), (("sum", "y", ((Ratio(10 ** 300), "u"),)),)), (5, "a", ("u",), many),
                ("text", "a", ("u",), ("y",), many, many), ("net", "a", ("u",), many[0]),
            ):
                with self.subTest(value=value):
                    self.bad(value, lambda: call([COPY, value, None]))
            for value in ([COPY, COPY], (COPY, NET, ("net", "copy", ("u",), NET[3]))):
                self.bad(value, lambda: call(value))
            self.assertEqual(call(entries=[COPY]), call([COPY]) if call is not nets_of else {})


class Told(Case):
    def test_texts_and_nets(self):
        entries = read_file(FILE)
        texts, nets = texts_of(entries), nets_of(entries)
        self.assertEqual([type(texts), list(texts), type(nets), list(nets)], [dict, ["pair", "copy"], dict, ["half"]])
        self.assertEqual(texts["pair"], Text("pair", ["u"], ["z"], [("sum", "z", ((ONE, "u"),))]))
        self.assertEqual(texts["copy"], read_texts("text copy (u -> y)\ny = u")[0])
        net = net_of_statements(NET[2], NET[3])
        self.assertEqual([type(nets["half"]), nets["half"].columns(), nets["half"].rows], [Net, net.columns(), net.rows])
        self.assertEqual(entries, read_file(FILE))

    def test_calls_to_texts_behind(self):
        entries = read_file("text a (u -> y)\ny = b(u)\nnet n (u)\n0 = u\ntext b (u -> y)\nv = c(u)\ny = v + u\ntext c (q -> r)\nr = 3*q\n")
        self.assertEqual(texts_of(entries)["a"].statements, (
            ("sum", "y.v", ((Ratio(3), "u"),)), ("sum", "y", ((ONE, "y.v"), (ONE, "u")))))

    def test_faults_in_their_order(self):
        bad_net = "net n (q)\ny = u\n"
        for text, error, fields in (
            ("text a (u -> y)\ny = n(u)\n", Unknown, {"name": "n"}),
            ("text a (u -> y)\ny = a(u)\n", Within, {"name": "a"}),
            ("text a (u -> y)\ny = u\ny = u\n", TwoGivers, {"name": "y"}),
            ("text a (u -> y)\ny = v\n", NoGiver, {"name": "v"}),
            ("text a (u -> y)\ny = u\nx = w\nw = x\n", Apart, {"name": "x"}),
        ):
            for whole in (text + bad_net, bad_net + text, bad_net + "text z (u -> y)\ny = u\n" + text):
                entries = read_file(whole)
                for call in (texts_of, nets_of):
                    self.raises(error, lambda: call(entries), **fields)
        entries = read_file("text z (u -> y)\ny = u\n" + bad_net)
        for call in (texts_of, nets_of):
            with self.assertRaises(BadValue) as caught:
                call(entries)
            self.assertIs(caught.exception.value, entries[1][3])
        # Net by net.
        entries = read_file("net a (u)\nu = thin 2 0 u\nnet b (q)\ny = u\nnet c (u)\nu = hold 48 v\n")
        self.raises(Unpaced, lambda: texts_of(entries), at=1)
        self.raises(TooMany, lambda: nets_of(entries[2:]), most=48)
        # The statement of a call as it stands in its own text.
        entries = read_file("text a (u -> y)\ny = b(u)\ntext b (u -> y)\ny, z = c(u)\ntext c (u -> y)\ny = u\n")
        with self.assertRaises(BadValue) as caught:
            texts_of(entries)
        self.assertIs(caught.exception.value, entries[1][4][0])

    def test_a_net_is_not_called(self):
        entries = read_file("text a (u -> y)\ny = half(u)\n" + FILE)
        self.raises(Unknown, lambda: texts_of(entries), name="half")

    def test_same_faults_as_read_texts(self):
        chance = random.Random(433)
        for _ in range(60):
            rows = [f"text t{number} (u -> y)\ny = t{chance.randrange(4)}(u)\nz = y\n" for number in range(chance.randint(1, 3))]
            text = "".join(rows) + "text t3 (u -> y)\ny = u\n"
            try:
                expected = read_texts(text)
            except StreamError as error:
                with self.assertRaises(type(error)) as caught:
                    texts_of(read_file(text))
                self.assertEqual(vars(caught.exception), vars(error))
                continue
            self.assertEqual(list(texts_of(read_file(text)).values()), expected)


if __name__ == "__main__":
    unittest.main()
