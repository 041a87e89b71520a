"""[66], [120]: whether promises hold, and the papers of yes and of no."""

import random
import unittest

from allstreams.errors import BadValue, TooMany, Unknown
from allstreams.files import nets_of, read_file, texts_of
from allstreams.growth import bounded_paper
from allstreams.least import least_machine, memory
from allstreams.machines import Machine
from allstreams.matrices import Matrix
from allstreams.naming import machine_of
from allstreams.paces import paces
from allstreams.plans import fillings, is_plan
from allstreams.polymatrices import PolyMatrix
from allstreams.promises import read_promise
from allstreams.questions import asked, holds
from allstreams.ratios import Ratio
from allstreams.turns import run_turns
from allstreams.equations import rule_rows
from tests.helpers import Case
from tests.random_machines import random_columns
from tests.random_nets import holds_in, items_of, left_of_row

ONE = Ratio(1)

FILE = read_file(
    "text plain (u -> y)\ny = u\n"
    "text echo (u -> y)\ny = u + 1/2*d\nd = delay [0] y\n"
    "text again (u -> y)\ny = u + d + e\ne = 1/4*y0\nd = 1/4*y0\ny0 = delay [0] y\n"
    "text other (u -> y)\ny = u + 1/2*d\nd = delay [3] y\n"
    "text back (v -> w)\nw = v - 1/2*d\nd = delay [0] v\n"
    "text grows (u -> y)\ny = u + d\nd = delay [0] y\n"
    "text stuck (x -> w)\nw = weave v x\nv = thin 2 1 w\n"
    "text odd (u -> y)\nh = hold 2 u\ny = u + h\n"
    "text long (u -> y)\na = hold 15 u\ny = hold 15 a\n"
    "text broad (u -> y)\ny = hold 48 u\n"
    "text late2 (u -> y)\nd = delay [0, 0] u\ny = d\n"
    "text half (u -> y)\ny = thin 2 0 u\n"
    "text tick (u -> y)\ns = source [1, 2]\ny = u + s\n"
    "text moves (u -> y, z)\nd = delay [0] u\ny = 3/5*u\nz = 4/5*d\n"
    "text turned (u -> y)\nd = delay [0] u\ny = d\n"
    "text pairs (u -> y)\na, b = deal u\ny = weave b a\n"
    "text held (u -> y)\nv = thin 2 1 u\nh = hold 2 v\ny = u + h\n"
    "net echoes (u, y)\n0 = 2*y[1] - y - 2*u[1]\n"
    "net same (u, y)\ny = u\n"
    "net free (u, v)\n0 = u[2] - v[2]\nz = hold 2 u\n")


def ask(text, file=FILE):
    return asked(file, read_promise(text))


class Answers(Case):
    def told(self, text, answer):
        """The answer without a paper."""
        self.assertEqual(ask(text), (answer, None))
        self.assertIs(type(ask(text)), tuple)
        self.assertIs(holds(FILE, read_promise(text)), answer)

    def paper(self, text, answer):
        """The paper that comes with the answer."""
        told = ask(text)
        self.assertEqual([type(told), told[0]], [tuple, answer])
        self.assertIs(holds(FILE, read_promise(text)), answer)
        self.assertIsNotNone(told[1])
        return told[1]

    def test_lives(self):
        self.assertEqual(self.paper("echo lives", True), [1, 2])
        self.assertTrue(is_plan(texts_of(FILE)["held"], self.paper("held lives", True)))
        ring = self.paper("stuck lives", False)
        self.assertEqual(sorted(ring), [("v", 0), ("w", 0), ("w", 1)])
        self.told("odd lives", False)
        self.raises(TooMany, lambda: ask("long lives"), most=200)

    def test_alike_texts(self):
        k, e, f = self.paper("echo alike again", True)
        self.assertTrue(all(type(part) is Matrix for part in (k, e, f)))
        one, other = machine_of(texts_of(FILE)["echo"]), machine_of(texts_of(FILE)["again"])
        self.assertEqual([k.width, f.height], [one.size() + other.size(), 1])
        out, place, ins = self.paper("echo alike other", False)
        self.assertEqual([out, place, sorted(ins)], ["y", 0, ["u"]])
        for text in ("echo alike back", "echo alike stuck", "stuck alike echo", "odd alike echo", "echo alike odd", "echo alike half"):
            self.told(text, False)
        self.raises(TooMany, lambda: ask("echo alike long"), most=200)
        self.raises(TooMany, lambda: ask("long alike odd"), most=200)
        self.told("odd alike long", False)

    def test_alike_nets(self):
        self.told("echoes alike echoes", True)
        self.told("echoes alike same", False)
        self.told("same alike plain", True)
        self.told("plain alike same", True)
        self.told("echo alike echoes", True)
        self.told("other alike echoes", True)
        self.told("back alike echoes", False)
        self.told("free alike same", False)
        self.told("tick alike same", False)
        self.told("same alike tick", False)
        self.told("odd alike same", False)
        self.told("half alike same", False)
        self.raises(TooMany, lambda: ask("same alike broad"), most=48)
        self.raises(TooMany, lambda: ask("broad alike same"), most=48)
        # A text that stands still has a net.
        self.told("stuck alike same", False)
        file = read_file("text stuck (x -> w)\nw = 0*w + x\nnet plain (x, w)\nw = x\n")
        self.assertEqual(asked(file, ("alike", "stuck", "plain")), (True, None))

    def check_wrong(self, second, first, late):
        """The triple of an out that does not give back an in."""
        texts = texts_of(FILE)
        number, place, ins = self.paper(f"{second} undoes {first} late {late}", False)
        self.assertEqual([type(number), type(place), sorted(ins)], [int, int, sorted(texts[first].ins)])
        told, behind = paces(texts[first]), paces(texts[second])
        turns = place // told[texts[first].ins[number]] + 3
        streams = {name: ([*items, *[0] * (turns * told[name])])[:max(len(items), turns * told[name])]
                   for name, items in ins.items()}
        outs = run_turns(texts[first], streams, turns)
        given = dict(zip(texts[second].ins, [outs[name] for name in texts[first].outs]))
        many = min(len(given[name]) // behind[name] for name in given)
        items = run_turns(texts[second], given, many)[texts[second].outs[number]]
        name = texts[first].ins[number]
        before = place - late * told[name]
        wanted = streams[name][before] if before >= 0 else 0
        self.assertNotEqual(items[place], wanted if isinstance(wanted, Ratio) else Ratio(wanted))
        return number, place

    def test_undoes(self):
        self.told("back undoes echo late 0", True)
        self.told("echo undoes back late 0", True)
        self.told("plain undoes plain late 0", True)
        self.told("plain undoes turned late 1", True)
        self.told("turned undoes plain late 1", True)
        self.told("late2 undoes turned late 3", True)
        self.told("pairs undoes pairs late 0", True)
        self.assertEqual(self.check_wrong("plain", "echo", 0), (0, 1))
        self.check_wrong("plain", "plain", 1)
        self.check_wrong("plain", "plain", 9999)
        self.check_wrong("back", "other", 0)
        self.check_wrong("pairs", "plain", 0)
        self.check_wrong("turned", "pairs", 1)
        # What does not fit has no paper.
        for text in ("plain undoes half late 0", "half undoes half late 0", "moves undoes plain late 0", "plain undoes moves late 0",
                     "stuck undoes plain late 0", "plain undoes stuck late 0", "odd undoes plain late 0", "plain undoes odd late 0"):
            self.told(text, False)
        self.raises(TooMany, lambda: ask("long undoes odd late 0"), most=200)
        self.told("odd undoes long late 0", False)
        self.raises(TooMany, lambda: ask("stuck undoes long late 0"), most=200)

    def test_undoes_at_unlike_paces(self):
        file = read_file("text a (u -> y)\np, q = deal u\ny = weave q p\ntext b (u -> y)\ny = delay [0, 0] v\np, q = deal u\nv = weave q p\n"
                         "text c (u -> y)\ny = u\ntext d (u -> y)\ny = delay [0] u\n"
                         "text e (u -> y)\na, b, c = deal u\ny = weave c b a\ntext f (u -> y)\ny = hold 2 v\nv = thin 2 0 u\n"
                         "text g (u -> y)\np, q = deal u\nv = weave p q\ny = delay [0] v\n")
        for text, answer in (("a undoes a late 0", True), ("b undoes a late 1", True), ("a undoes b late 1", True),
                             ("b undoes c late 2", False), ("c undoes c late 0", True), ("d undoes c late 1", True),
                             ("e undoes e late 0", True), ("e undoes a late 0", False), ("c undoes a late 0", False),
                             ("f undoes c late 0", False), ("c undoes f late 0", False),
                             ("g undoes c late 1", True), ("g undoes c late 2", False), ("g undoes e late 0", False),
                             ("g undoes d late 2", True), ("d undoes g late 1", True), ("c undoes g late 1", False)):
            with self.subTest(text=text):
                told = ask(text, file)
                self.assertEqual(told[0], answer)
                self.assertEqual(told[1] is None, answer)

    def test_late(self):
        chance = random.Random(451)
        for text, name, late in (("echo late 0", "echo", 0), ("late2 late 2", "late2", 2), ("late2 late 5", "late2", 5)):
            undoing = self.paper(text, True)
            machine = machine_of(texts_of(FILE)[name])
            self.assertIs(type(undoing), Machine)
            columns = random_columns(chance, machine, 6 + late)
            self.assertEqual(undoing.run(machine.run(columns))[late:], columns[:6])
        one, other = self.paper("late2 late 1", False)
        machine = machine_of(texts_of(FILE)["late2"])
        self.assertEqual([len(one), machine.run(one) == machine.run(other), one[0] != other[0]], [2, True, True])
        self.paper("half late 60", False)
        self.told("stuck late 0", False)
        self.told("odd late 0", False)

    def test_bounded(self):
        self.assertEqual(self.paper("echo bounded", True), bounded_paper(machine_of(texts_of(FILE)["echo"])))
        self.told("grows bounded", False)
        self.told("stuck bounded", False)
        self.assertEqual(self.paper("plain bounded", True), Matrix([]))

    def test_memory(self):
        machine = machine_of(texts_of(FILE)["again"])
        for many in (1, 2, 9999):
            self.assertEqual(self.paper(f"again memory {many}", True), least_machine(machine))
        rows, columns = self.paper("late2 memory 1", False)
        self.assertEqual([len(rows), len(columns), memory(machine_of(texts_of(FILE)["late2"]))], [2, 2, 2])
        self.paper("plain memory 0", True)
        self.told("odd memory 3", False)

    def test_room(self):
        text = texts_of(FILE)["held"]
        for many in (3, 4, 100):
            plan = self.paper(f"held room {many}", True)
            self.assertLessEqual(max(fillings(text, plan)), many)
        self.assertEqual(self.paper("held room 2", False), [(0, 0, 0), (1, 0, 0)])
        self.assertEqual(ask("held room 0"), ask("held room 2"))
        self.told("stuck room 5", False)
        self.told("odd room 5", False)
        rows = "".join(f"y{number} = u\n" for number in range(11))
        file = read_file(f"text a (u -> y0)\n{rows}")
        self.raises(TooMany, lambda: ask("a room 20", file), most=2000)

    def test_energy(self):
        self.told("moves keeps energy", True)
        self.told("turned keeps energy", True)
        self.told("echo keeps energy", False)
        self.told("stuck keeps energy", False)
        stream = self.paper("half keeps energy", False)
        machine = machine_of(texts_of(FILE)["half"])
        told = [item for turn in machine.run([*stream, *[[0, 0]] * 3]) for item in turn]
        energy = lambda items: sum(item.top ** 2 for item in items)
        self.assertNotEqual(energy(told), energy([item for turn in stream for item in turn]))

    def test_follows(self):
        net = nets_of(FILE)["echoes"]
        for text in ("echoes follows 0 = 2*y[1] - y - 2*u[1]", "echoes follows 0 = 4*y[2] - 2*y[1] - 4*u[2]", "echoes follows 0 = 0*u",
                     "echoes follows 0 = 4*y[2] - 4*u[2] - y - 2*u[1]"):
            multipliers = self.paper(text, True)
            rows = rule_rows(net, read_promise(text)[2])
            self.assertEqual([type(multipliers), [type(one) for one in multipliers]], [tuple, [tuple]])
            self.assertEqual(PolyMatrix(list(multipliers)) * net.rows, rows)
        streams = self.paper("echoes follows 0 = y - u", False)
        self.assertTrue(holds_in(net, streams))
        self.assertNotEqual(streams["y"].item(0), streams["u"].item(0))
        for text in ("echoes follows 0 = z", "echoes follows 0 = y - z", "free follows 0 = z - u", "echo follows 0 = u", "gone follows 0 = u"):
            self.told(text, False)
        # Of a wire with several items a turn each equation counts.
        free = nets_of(FILE)["free"]
        self.assertEqual(len(self.paper("free follows 0 = 0*z", True)), 2)
        self.assertEqual(len(self.paper("free follows 0 = u[2] - v[2]", True)), 1)
        told = self.paper("free follows 0 = z[1] - z", False)
        self.assertTrue(holds_in(free, told))
        rows = rule_rows(free, read_promise("free follows 0 = z[1] - z")[2]).rows
        self.assertNotEqual(left_of_row(free, rows[1], items_of(told, 9), 1), [0])

    def test_driven(self):
        self.assertEqual(ask("echoes driven by u"), (True, 1))
        self.assertEqual(ask("echoes driven by y"), (True, 1))
        self.assertEqual(ask("same driven by u"), (True, 0))
        for text in ("echoes driven by", "echoes driven by u, y", "echoes driven by u, u", "echoes driven by q", "free driven by z",
                     "echo driven by u", "gone driven by u", "free driven by u, v"):
            self.told(text, False)
        self.assertEqual(ask("free driven by u"), (True, 2))
        self.assertEqual(asked(read_file("net n (u)\n0 = u[3]\n"), ("driven", "n", ())), (True, 3))

    def test_names_that_are_not_there_or_of_the_other_sort(self):
        for word in ("lives", "late 3", "bounded", "memory 3", "room 3", "keeps energy", "undoes plain late 0", "alike plain"):
            self.told(f"gone {word}", False)
            if word != "alike plain":
                self.told(f"same {word}", False)
        self.told("plain undoes gone late 0", False)
        self.told("plain undoes same late 0", False)
        self.told("plain alike gone", False)
        self.told("same alike gone", False)
        self.told("long alike gone", False)
        self.told("broad alike gone", False)
        self.told("gone alike broad", False)
        self.told("plain driven by u", False)


class Arguments(Case):
    def test_wrong_inputs(self):
        for call in (holds, asked):
            for value in (None, 5, "x", {}, True):
                self.bad(value, lambda: call(value, ("lives", "a")))
            for value in (None, (), ("text", "a"), 5, "text"):
                self.bad(value, lambda: call([FILE[0], value], ("lives", "a")))
            double = [FILE[0], FILE[0]]
            self.bad(double, lambda: call(double, ("lives", "a")))
            for value in (None, 5, "plain lives", (), ("lives",), ("late", "a", True), ("late", "a", 10000), {}):
                self.bad(value, lambda: call(FILE, value))
            self.bad("e", lambda: call("e", "p"))
            self.assertEqual(call(entries=FILE, promise=["lives", "plain"]), call(FILE, ("lives", "plain")))

    def test_faults_come_first(self):
        file = [*FILE, ("text", "bad", ("u",), ("y",), (("call", ("y",), "none", ("u",)),))]
        for call in (holds, asked):
            self.raises(Unknown, lambda: call(file, ("lives", "plain")), name="none")
            self.bad("p", lambda: call(file, "p"))
        nets = [*FILE, ("net", "bad", ("q",), (("sum", "y", ((ONE, "x"),)),))]
        with self.assertRaises(BadValue) as caught:
            asked(nets, ("lives", "plain"))
        self.assertIs(caught.exception.value, nets[-1][3])

    def test_equal_calls(self):
        again = [tuple(entry) for entry in FILE]
        for text in ("held lives", "stuck lives", "echo alike again", "echo alike other", "late2 late 1", "held room 2",
                     "echoes follows 0 = y - u", "echo late 0", "echo bounded", "late2 memory 1"):
            self.assertEqual(ask(text), ask(text))
        self.assertEqual(FILE, again)


if __name__ == "__main__":
    unittest.main()
