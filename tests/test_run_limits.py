"""[123] for texts that are run and machines: the sizes with which the functions are called."""

import random
import unittest

from allstreams.errors import TooMany
from allstreams.likeness import alike, first_parting, likeness_paper
from allstreams.machines import Machine
from allstreams.matrices import Matrix, zeros
from allstreams.naming import machine_of
from allstreams.needs import lives, needs_of, standing_ring
from allstreams.plans import fillings, first_plan, is_plan
from allstreams.ratios import Ratio
from allstreams.rooms import least_room
from allstreams.running import Run
from allstreams.shaped import text_of
from allstreams.turns import run_turns
from allstreams.wiring import Text
from tests.helpers import Case
from tests.random_machines import random_columns, random_machine, told_by
from tests.helpers import fraction

ONE = Ratio(1)


def chain(many, ratio=ONE):
    """A text of so many boxes, one behind another, told from the last one on."""
    rows = [("sum", f"w{number}", ((ratio, f"w{number - 1}" if number else "u"),)) for number in range(many)]
    return Text("a", ["u"], [f"w{many - 1}"], rows[::-1])


def fans():
    """60 boxes that take a wire of 60 items a turn, so 3,600 steps."""
    return Text("a", ["u"], ["y0"], [("thin", f"y{number}", 60, number, "u") for number in range(60)])


class Limits(Case):
    def test_60_boxes(self):
        text = chain(60)
        self.assertEqual(first_plan(text), list(range(60, 0, -1)))
        self.assertTrue(lives(text))
        self.assertEqual(run_turns(text, {"u": [3] * 400}, 400)["w59"], [Ratio(3)] * 400)
        self.assertEqual(fillings(text, first_plan(text))[:3], [1, 1, 1])
        self.raises(TooMany, lambda: least_room(text), most=2000)

    def test_3600_steps_a_turn(self):
        text = fans()
        plan = first_plan(text)
        self.assertEqual(len(plan), 3600)
        self.assertTrue(is_plan(text, plan))
        self.assertEqual(fillings(text, plan)[-1], 0)
        told = run_turns(text, {"u": list(range(24000))}, 400)["y0"]
        self.assertEqual(told, [Ratio(60 * turn) for turn in range(400)])
        run = Run(text)
        run.give("u", list(range(60)))
        for box in plan:
            run.step(box)
        self.assertEqual(run.come("y0"), [Ratio(0)])

    def test_200_wires(self):
        names = tuple(f"x{number}" for number in range(60))
        text = Text("a", ["u"], ["s"], [("deal", names, "u"), ("sum", "s", tuple((ONE, name) for name in names))])
        self.assertEqual(len(text.wires()), 62)
        self.assertEqual(run_turns(text, {"u": [1] * 600}, 10)["s"], [Ratio(60)] * 10)
        ins = [f"u{number}" for number in range(140)]
        wide = Text("b", ins, ["y"], [("sum", "y", tuple((ONE, name) for name in ins)),
                                      *[("sum", f"z{number}", ((ONE, "y"),)) for number in range(59)]])
        self.assertEqual(len(wide.wires()), 200)
        self.assertEqual(machine_of(wide).d, Matrix([[1] * 140]))
        self.assertTrue(alike(wide, wide))

    def test_a_long_ring(self):
        rows = [("sum", f"w{number}", ((ONE, f"w{(number + 1) - 60 * (number == 59)}"),)) for number in range(60)]
        rows[0] = ("sum", "w0", ((ONE, "w1"), (ONE, "u")))
        ring = standing_ring(Text("a", ["u"], ["w0"], rows))
        self.assertEqual(len(ring), 60)

    def test_needs_at_far_places(self):
        far = 10 ** 400
        self.assertEqual(needs_of(fans(), "y7", far), [("u", 60 * far + 7), ("y7", far - 1)])

    def test_machines_of_60_states_and_60_lanes(self):
        chance = random.Random(121)
        machine = random_machine(chance, 60, 60, 60)
        columns = random_columns(chance, machine, 4)
        self.assertEqual([[fraction(item) for item in row] for row in machine.run(columns)], told_by(machine, columns))
        self.assertEqual(machine.over(2).d.height, 120)
        self.assertEqual(machine.answer(2), machine.c * machine.a * machine.b)

    def test_400_turns(self):
        chance = random.Random(122)
        line = Machine(
            Matrix([[1 if column == row + 1 else 0 for column in range(60)] for row in range(60)]),
            Matrix([[0]] * 59 + [[1]]), Matrix([[1] + [0] * 59]), Matrix([[0]]), [0] * 60, [1], [1])
        items = [[chance.randint(-9, 9)] for _ in range(400)]
        told = line.run(items)
        self.assertEqual(told, [[Ratio(0)]] * 60 + [[Ratio(item[0])] for item in items[:340]])
        self.assertEqual([line.answer(60), line.answer(400)], [Matrix([[1]]), zeros(1, 1)])
        dense = random_machine(chance, 60, 2, 2, 0)
        self.assertEqual(len(dense.run(random_columns(chance, dense, 100))), 100)

    def test_likeness_of_28_states(self):
        machine = random_machine(random.Random(123), 28, 1, 1)
        machine = Machine(machine.a, machine.b, machine.c, machine.d, machine.start, [1], [1])
        one = text_of(machine, "a", ["u"], ["y"])
        self.assertEqual(machine_of(one).size(), 28)
        self.assertTrue(alike(one, one))
        self.assertEqual(likeness_paper(one, one)[0].height, 28)
        rows = [list(row) for row in machine.c.rows]
        rows[0][0] = rows[0][0] + 1
        other = text_of(Machine(machine.a, machine.b, Matrix(rows), machine.d, machine.start, [1], [1]), "b", ["u"], ["y"])
        self.assertIsNotNone(first_parting(one, other))

    def test_likeness_of_long_delays(self):
        # 400 told items are far beyond 60 states; the one that differs comes last.
        def late(last):
            return Text("a", ["u"], ["y"], [("delay", "y", tuple([Ratio(0)] * 150 + [Ratio(last)]), "u")])
        self.assertTrue(alike(late(1), late(1)))
        self.assertEqual(first_parting(late(1), late(2))[:2], ("y", 150))


if __name__ == "__main__":
    unittest.main()
