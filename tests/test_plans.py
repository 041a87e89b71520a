"""[29], [30], [88]: plans, and how many items wait while they are made."""

import itertools
import random
import unittest

from allstreams.errors import StandsStill, TooMany, Unpaced
from allstreams.paces import paces, steps_of_turn
from allstreams.plans import fillings, first_plan, is_plan
from allstreams.ratios import Ratio
from allstreams.reader import read_texts
from allstreams.running import Run
from tests.helpers import STRANGE, Case
from tests.random_texts import living_text, paced_text
from tests.test_needs import LONG, ODD, one_text

HALVES = one_text("v = thin 2 1 u\nh = hold 2 v\nw = u + h", outs="w")
STUCK = one_text("w = weave v u\nv = thin 2 1 w", outs="w")


def all_plans(text):
    """All orders of the steps of a turn that a run can make, given the items of the turn on the ins alone."""
    steps = steps_of_turn(text)
    numbers = [box + 1 for box, many in enumerate(steps) for _ in range(many)]
    return sorted(plan for plan in set(itertools.permutations(numbers)) if filled(text, plan) is not None)


def filled(text, plan):
    """How many items wait in a run by the plan, at its beginning and behind each step; None if it cannot be made."""

    run = Run(text)
    for name in text.ins:
        run.give(name, [0] * paces(text)[name])
    told = [sum(run.waiting().values())]
    for box in plan:
        if not run.can_step(box):
            return None
        run.step(box)
        told.append(sum(run.waiting().values()))
    return told


class Plans(Case):
    def test_first_plans(self):
        for lines, plan in [
            ("y = u", [1]),
            ("y = a\na = u", [2, 1]),
            ("y = a + u\na = delay [1] y", [1, 2]),
            ("a = hold 2 u\ny = a", [1, 1, 2, 2]),
            ("y = b\nb = hold 2 u\nc = thin 2 0 y", [2, 1, 2, 1, 3, 3]),
            ("y = weave u v\nv = thin 2 0 y", [1, 2, 1, 2]),
            ("a, b = deal u\ny = weave b a", [1, 1, 2, 2]),
            ("y = weave b a\na, b = deal u", [2, 2, 1, 1]),
            ("d = delay [1, 2, 3] u\ny = d", [1, 2]),
            ("y = d\nd = delay [1, 2, 3] u", [1, 2]),
            ("s = source [1, 2]\ny = s + u", [1, 2]),
            ("s = stretch 3 u\ny = s", [1, 1, 1, 2, 2, 2]),
        ]:
            with self.subTest(lines=lines):
                told = first_plan(one_text(lines))
                self.assertEqual(told, plan)
                self.assertIs(type(told), list)
        self.assertEqual(first_plan(HALVES), [1, 1, 2, 2, 3, 3])
        self.raises(StandsStill, lambda: first_plan(STUCK))

    def test_a_short_delay_waits_for_the_box_that_it_takes_of(self):
        # The told item lets y step once, then d, then y again.
        text = one_text("e, f = deal y\ng = e\ny = d\nd = delay [1] y\nh = hold 2 e\nk = h + d + u", outs="k")
        self.assertEqual(first_plan(text)[:4], [3, 1, 2, 4])

    def test_plans_are_those_that_runs_can_make(self):
        chance = random.Random(41)
        asked = 0
        while asked < 60:
            text, _ = living_text(chance, range(1, 5))
            if sum(steps_of_turn(text)) > 7:
                continue
            asked += 1
            plans = all_plans(text)
            self.assertEqual(first_plan(text), list(plans[0]))
            numbers = list(plans[0])
            for plan in itertools.permutations(numbers):
                self.assertIs(is_plan(text, list(plan)), plan in plans)
            for plan in plans[:20]:
                self.assertEqual(fillings(text, plan), filled(text, plan))

    def test_no_plans(self):
        for boxes in ([], [1], [1, 1, 2, 2, 3], [1, 1, 2, 2, 3, 3, 3], [1, 1, 1, 2, 2, 3], [1, 1, 2, 2, 3, 4],
                      [0, 1, 2, 2, 3, 3], [-1, 1, 2, 2, 3, 3], [1, 1, 2, 2, 3, 0], [1, 1, 2, 2, 3, -2], [2, 1, 1, 2, 3, 3], [1, 2, 1, 3, 2, 3],
                      [1, 1, 3, 2, 2, 3], [10 ** 40] * 6, [1, 1, 2, 2, 3, 3] * 2):
            with self.subTest(boxes=boxes):
                self.assertIs(is_plan(HALVES, boxes), False)
                self.bad(boxes, lambda: fillings(HALVES, boxes))
        self.assertIs(is_plan(HALVES, (1, 1, 2, 3, 2, 3)), True)
        for boxes in ([], [1, 2], [1, 1, 2, 2], [2, 2, 1, 1], [1, 2, 1, 2]):
            self.assertIs(is_plan(STUCK, boxes), False)
            self.bad(boxes, lambda: fillings(STUCK, boxes))

    def test_steps_of_a_turn_of_texts_that_stand_still(self):
        chance = random.Random(42)
        found = 0
        while found < 30:
            text, _ = paced_text(chance, range(1, 5))
            if sum(steps_of_turn(text)) <= 7:
                plans = all_plans(text)
                if not plans:
                    found += 1
                    self.raises(StandsStill, lambda: first_plan(text))

    def test_wrong(self):
        self.each_bad(first_plan)
        for call in (is_plan, fillings):
            self.each_bad(lambda value: call(value, []))
            self.each_bad(lambda value: call(HALVES, value), but=STRANGE[7:10])
            self.bad(True, lambda: call(HALVES, [1, True, "x"]))
            self.bad("x", lambda: call(HALVES, [1, "x", True]))
            self.bad("text", lambda: call("text", [None]))
            self.bad(1.0, lambda: call(ODD, (1.0,)))
            self.raises(Unpaced, lambda: call(ODD, [1]), at=2)
            self.raises(TooMany, lambda: call(LONG, [1]), most=200)
        self.raises(Unpaced, lambda: first_plan(ODD), at=2)
        self.raises(TooMany, lambda: first_plan(LONG), most=200)

    def test_arguments_stay_and_results_are_new(self):
        boxes = [1, 1, 2, 3, 2, 3]
        told = fillings(HALVES, boxes)
        told.append(5)
        self.assertEqual([boxes, fillings(HALVES, boxes)], [[1, 1, 2, 3, 2, 3], [2, 2, 3, 3, 1, 2, 0]])
        first_plan(HALVES).append(1)
        self.assertEqual(first_plan(HALVES), [1, 1, 2, 2, 3, 3])


class Fillings(Case):
    def test_wires_that_no_box_takes(self):
        self.assertEqual(fillings(one_text("y = u"), [1]), [1, 0])
        self.assertEqual(fillings(one_text("y = delay [1, 2] u"), [1]), [1, 0])
        self.assertEqual(fillings(one_text("a, b, c = deal u\ny = b"), [1, 1, 1, 2]), [3, 2, 2, 1, 0])

    def test_told_items_of_delays(self):
        self.assertEqual(fillings(one_text("d = delay [1, 2] u\ny = d"), [1, 2]), [3, 3, 2])
        self.assertEqual(fillings(one_text("d = delay [1, 2] u\ny = d"), [2, 1]), [3, 2, 2])

    def test_a_wire_at_several_places(self):
        # A sum takes at all of them with each step, a weave at one; an item waits until it is taken at each.
        self.assertEqual(fillings(one_text("y = u + 2*u"), [1]), [1, 0])
        self.assertEqual(fillings(one_text("y = weave u u"), [1, 1]), [1, 1, 0])
        self.assertEqual(fillings(one_text("y = weave u v u\nv = u"), [2, 1, 1, 1]), [1, 2, 2, 1, 0])
        self.assertEqual(fillings(one_text("y = u\nz = hold 2 u"), [2, 1, 2]), [1, 1, 0, 0])
        self.assertEqual(fillings(one_text("y = u\nz = hold 2 u"), [1, 2, 2]), [1, 1, 0, 0])

    def test_thinned_and_dealt(self):
        self.assertEqual(fillings(one_text("t = thin 3 1 u\ny = t"), [1, 1, 1, 2]), [3, 2, 2, 1, 0])
        self.assertEqual(fillings(one_text("t = thin 3 1 u\ny = t"), [1, 1, 2, 1]), [3, 2, 2, 1, 0])
        self.assertEqual(fillings(one_text("t = stretch 3 u\ny = t"), [1, 2, 1, 2, 1, 2]), [1, 1, 0, 1, 0, 1, 0])

    def test_sources(self):
        text = read_texts("text a (-> y)\ns = source [1, 2]\ny = s")[0]
        self.assertEqual(fillings(text, [1, 2]), [0, 1, 0])

    def test_behind_a_plan_as_many_wait_but_for_the_ins(self):
        chance = random.Random(43)
        for _ in range(100):
            text, told = living_text(chance)
            full = fillings(text, first_plan(text))
            self.assertEqual(full[0] - sum(told[name] for name in text.ins), full[-1])
            self.assertEqual(len(full), sum(steps_of_turn(text)) + 1)


if __name__ == "__main__":
    unittest.main()
