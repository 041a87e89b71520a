"""[31], [32], [90]: runs, step by step."""

import random
import unittest
from fractions import Fraction

from allstreams.errors import CannotStep, TooMany, Unknown, Unpaced
from allstreams.ratios import Ratio
from allstreams.reader import read_texts
from allstreams.running import Run
from tests.helpers import STRANGE, Case, fraction, random_ratio
from tests.random_texts import paced_text
from tests.streams_oracle import Oracle, Ring
from tests.test_needs import LONG, ODD, one_text
from tests.test_plans import STUCK

ECHO = one_text("y = u + 1/2*d\nd = delay [0, -3] y")


def texts(items):
    return [str(item) for item in items]


class Runs(Case):
    def test_sum_and_delay(self):
        run = Run(ECHO)
        self.assertEqual(texts(run.come("d")), ["0", "-3"])
        self.assertEqual([run.come("u"), run.come("y"), run.steps(1), run.steps(2)], [[], [], 0, 0])
        self.assertEqual([run.can_step(1), run.can_step(2)], [False, False])
        self.assertEqual(run.waiting(), {"u": 0, "y": 0, "d": 2})
        self.assertIsNone(run.give("u", [1, Ratio(1, 2)]))
        self.assertEqual([run.can_step(1), run.waiting()], [True, {"u": 2, "y": 0, "d": 2}])
        self.assertIsNone(run.step(1))
        self.assertEqual([texts(run.come("y")), run.waiting()], [["1"], {"u": 1, "y": 1, "d": 1}])
        run.step(1)
        self.assertEqual(texts(run.come("y")), ["1", "-1"])
        run.step(2)
        self.assertEqual([texts(run.come("d")), run.steps(1), run.steps(2)], [["0", "-3", "1"], 2, 1])
        run.give("u", ())
        run.give("u", (4,))
        run.step(1)
        self.assertEqual([texts(run.come("y")), texts(run.come("u"))], [["1", "-1", "9/2"], ["1", "1/2", "4"]])

    def test_sources_step_always(self):
        run = Run(read_texts("text a (-> y)\ny = source [1, 2, 3]")[0])
        for _ in range(7):
            self.assertTrue(run.can_step(1))
            run.step(1)
        self.assertEqual(texts(run.come("y")), ["1", "2", "3", "1", "2", "3", "1"])
        self.assertEqual(run.waiting(), {"y": 0})

    def test_thin_and_deal(self):
        run = Run(one_text("y = thin 3 1 u\na, b = deal u"))
        run.give("u", [10, 11, 12, 13, 14, 15, 16])
        counts = []
        for _ in range(5):
            run.step(1)
            counts.append(len(run.come("y")))
        self.assertEqual([counts, texts(run.come("y"))], [[0, 1, 1, 1, 2], ["11", "14"]])
        self.assertEqual(run.waiting()["u"], 7)
        for _ in range(3):
            run.step(2)
        self.assertEqual([texts(run.come("a")), texts(run.come("b"))], [["10", "12"], ["11"]])
        self.assertEqual(run.waiting(), {"u": 4, "y": 0, "a": 0, "b": 0})

    def test_stretch_and_hold(self):
        run = Run(one_text("y = stretch 3 u\nh = hold 2 u\nz = y"))
        run.give("u", [5, 6])
        for _ in range(6):
            run.step(1)
        self.assertEqual(texts(run.come("y")), ["5", "0", "0", "6", "0", "0"])
        self.raises(CannotStep, lambda: run.step(1), box=1)
        for _ in range(3):
            run.step(2)
        # The third step has taken the second item, though it is given once more.
        self.assertEqual([texts(run.come("h")), run.waiting()["u"], run.waiting()["y"]], [["5", "5", "6"], 0, 6])
        run.step(2)
        self.assertFalse(run.can_step(2))

    def test_weave(self):
        run = Run(one_text("y = weave u v u", ins="u, v"))
        run.give("u", [1, 2])
        self.assertTrue(run.can_step(1))
        run.step(1)
        self.assertFalse(run.can_step(1))
        self.assertEqual(run.waiting(), {"u": 2, "v": 0, "y": 0})
        run.give("v", [7, 8])
        run.step(1)
        run.step(1)
        self.assertEqual([texts(run.come("y")), run.waiting()], [["1", "7", "1"], {"u": 1, "v": 1, "y": 0}])

    def test_stuck_texts_can_be_run(self):
        run = Run(STUCK)
        run.give("u", [1, 2, 3])
        self.assertEqual([run.can_step(1), run.can_step(2), run.waiting()["u"]], [False, False, 3])
        self.raises(CannotStep, lambda: run.step(2), box=2)
        self.assertEqual(run.come("w"), [])

    def test_any_order_gives_a_beginning_of_the_one_stream(self):
        chance = random.Random(61)
        for _ in range(120):
            text, told = paced_text(chance)
            ins = {name: [random_ratio(chance) for _ in range(chance.randint(0, 12))] for name in text.ins}
            oracle = Oracle(text, ins)
            run = Run(text)
            given = {name: 0 for name in ins}
            for _ in range(60):
                if ins and chance.random() < 0.3:
                    name = chance.choice(list(ins))
                    many = chance.randint(0, 4)
                    run.give(name, ins[name][given[name]:given[name] + many])
                    given[name] += many
                box = chance.randint(1, len(text.statements))
                if run.can_step(box):
                    run.step(box)
                else:
                    self.raises(CannotStep, lambda: run.step(box), box=box)
            for wire in text.wires():
                come = run.come(wire)
                try:
                    self.assertEqual([fraction(item) for item in come], oracle.first(wire, len(come)))
                except Ring:
                    self.fail("something came that cannot come")
            self.check_waiting(text, run)

    def check_waiting(self, text, run):
        """An item waits until it has been taken at each place at which a box names the wire."""
        taken = {wire: [] for wire in text.wires()}
        for box, (word, _, *rest) in enumerate(text.statements, start=1):
            steps = range(run.steps(box))
            if word in ("stretch", "hold"):
                taken[rest[1]].append(len([step for step in steps if step % rest[0] == 0]))
            elif word == "weave":
                for number, wire in enumerate(rest[0]):
                    taken[wire].append(len([step for step in steps if step % len(rest[0]) == number]))
            elif word != "source":
                wires = [wire for _, wire in rest[0]] if word == "sum" else [rest[-1]]
                for wire in wires:
                    taken[wire].append(len(steps))
        expected = {wire: len(run.come(wire)) - min(many) if many else 0 for wire, many in taken.items()}
        self.assertEqual(run.waiting(), expected)
        self.assertEqual(list(run.waiting()), list(text.wires()))


class Wrong(Case):
    def test_texts(self):
        self.each_bad(Run)
        self.raises(Unpaced, lambda: Run(ODD), at=2)
        self.raises(TooMany, lambda: Run(LONG), most=200)

    def test_give(self):
        run = Run(ECHO)
        self.each_bad(lambda value: run.give(value, [1]), but=("x", ""))
        self.each_bad(lambda value: run.give("u", value), [None, "x", 1, 1.0, {}, b"a", Ratio(1), object()])
        for item in (True, "x", None, 1.0, [], Fraction(1, 2)):
            self.bad(item, lambda: run.give("u", [1, item, object()]))
        self.bad(None, lambda: run.give(None, None))
        self.bad(True, lambda: run.give("q", [True]))
        for name in ("q", "y", "d", ""):
            self.raises(Unknown, lambda: run.give(name, [1]), name=name)
        self.assertEqual(run.come("u"), [])

    def test_boxes(self):
        run = Run(ECHO)
        for call in (run.can_step, run.step, run.steps):
            self.each_bad(call, [*STRANGE, 0, 3, -1, 10 ** 30])
        self.raises(CannotStep, lambda: run.step(2), box=2)
        self.assertEqual([run.steps(1), run.steps(2)], [0, 0])

    def test_come(self):
        run = Run(ECHO)
        self.each_bad(run.come, but=("x", ""))
        for name in ("q", "", "text"):
            self.raises(Unknown, lambda: run.come(name), name=name)

    def test_lists_are_copied_and_new(self):
        run, items = Run(ECHO), [1, 2]
        run.give("u", items)
        items.append(3)
        run.come("u").append(4)
        run.come("d").append(4)
        run.waiting()["u"] = 9
        self.assertEqual([texts(run.come("u")), len(run.come("d")), run.waiting()["u"]], [["1", "2"], 2, 2])
        self.assertEqual(items, [1, 2, 3])

    def test_runs_are_equal_only_to_themselves(self):
        run, other = Run(ECHO), Run(ECHO)
        self.assertEqual(run, run)
        self.assertNotEqual(run, other)
        run.give("u", [1])
        run.step(1)
        self.assertEqual([other.come("u"), other.steps(1), other.come("y")], [[], 0, []])
        self.assertEqual(texts(Run(ECHO).come("d")), ["0", "-3"])


if __name__ == "__main__":
    unittest.main()
