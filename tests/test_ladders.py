"""[43], [44], [102], [103]: ladders, run, run rounded, undone, and made of machines."""

import random
import unittest
from math import floor
from fractions import Fraction

from allstreams.errors import HasLoops
from allstreams.ladders import Ladder
from allstreams.laddered import ladder_of
from allstreams.machines import Machine
from allstreams.matrices import Matrix, identity, zeros
from allstreams.polys import Poly
from allstreams.ratios import Ratio
from tests.helpers import STRANGE, Case, fraction, fractions_of, random_poly, random_ratio
from tests.random_machines import changed, loopless_machine
from tests.test_stairs import HALF

HALF_LATE = Poly([0, Ratio(1, 2)])


def texts(lanes):
    return [[str(item) for item in lane] for lane in lanes]


def random_rungs(chance, many, degree=3):
    rungs = []
    for _ in range(chance.randint(0, many)):
        lane = chance.randint(0, 1)
        rungs.append(chance.choice([
            ("exchange",), ("late", lane, chance.randint(1, 3)), ("add", lane, random_poly(chance, degree, 3)),
            ("take", lane, random_poly(chance, chance.randint(-1, degree), 3)),
            ("factor", lane, Ratio(chance.choice([1, -1, 2, -3]), chance.choice([1, 2]))),
        ]))
    return rungs


def run_by_words(rungs, lanes, is_rounded):
    """The steps of point 43 on lists of Fractions."""
    lanes = [[fraction(item) for item in lane] for lane in lanes]
    for rung in rungs:
        if rung[0] == "exchange":
            lanes = lanes[::-1]
            continue
        word, lane, told = rung
        items, other = lanes[lane], lanes[1 - lane]
        for turn in reversed(range(len(items))):
            if word in ("add", "take"):
                amount = sum((part * other[turn - back] for back, part in enumerate(fractions_of(told)) if back <= turn),
                             Fraction(0))
                if is_rounded:
                    amount = Fraction(floor(amount + Fraction(1, 2)))
                items[turn] += amount if word == "add" else -amount
            elif word == "factor":
                items[turn] *= fraction(told)
            else:
                items[turn] = items[turn - told] if turn >= told else Fraction(0)
    return lanes


class Ladders(Case):
    def test_of_the_document(self):
        ladder = Ladder([("add", 1, HALF_LATE), ("late", 0, 1)])
        self.assertEqual(texts(ladder.run([1, 4, 0], [0, 0, 0])), [["0", "1", "4"], ["0", "1/2", "2"]])
        self.assertEqual(texts(ladder.run_rounded([1, 4, 0], [0, 0, 0])), [["0", "1", "4"], ["0", "1", "2"]])
        self.assertEqual(ladder.lateness(), 1)

    def test_each_step(self):
        one, two = [1, 2, 3], [Ratio(1, 2), 0, 5]
        for rung, lanes in [
            (("exchange",), [["1/2", "0", "5"], ["1", "2", "3"]]),
            (("factor", 0, Ratio(-1, 2)), [["-1/2", "-1", "-3/2"], ["1/2", "0", "5"]]),
            (("factor", 1, Ratio(2)), [["1", "2", "3"], ["1", "0", "10"]]),
            (("late", 0, 2), [["0", "0", "1"], ["1/2", "0", "5"]]),
            (("late", 1, 7), [["1", "2", "3"], ["0", "0", "0"]]),
            (("add", 0, Poly([2, 1])), [["2", "5/2", "13"], ["1/2", "0", "5"]]),
            (("take", 1, Poly([1, 0, 1])), [["1", "2", "3"], ["-1/2", "-2", "1"]]),
            (("add", 0, Poly([])), [["1", "2", "3"], ["1/2", "0", "5"]]),
        ]:
            with self.subTest(rung=rung):
                told = Ladder([rung]).run(one, two)
                self.assertEqual([type(told), [type(lane) for lane in told]], [tuple, [list, list]])
                self.assertEqual(texts(told), lanes)

    def test_rounded_halves(self):
        half = Ladder([("add", 0, Poly([Ratio(1, 2)]))])
        self.assertEqual(texts(half.run_rounded([0] * 6, [1, -1, 3, -3, 2, -2])[:1]), [["1", "0", "2", "-1", "1", "-1"]])
        take = Ladder([("take", 0, Poly([Ratio(1, 2)]))])
        self.assertEqual(texts(take.run_rounded([0] * 4, [1, -1, 3, -3])[:1]), [["-1", "0", "-2", "1"]])
        third = Ladder([("add", 1, Poly([Ratio(1, 3)]))])
        self.assertEqual(texts(third.run_rounded([1, 2, -1, -2], [0] * 4)[1:]), [["0", "1", "0", "-1"]])
        # Nothing else is rounded.
        rest = Ladder([("factor", 0, Ratio(1, 2)), ("add", 0, Poly([Ratio(1, 2)]))])
        self.assertEqual(texts(rest.run_rounded([1], [3])), [["5/2"], ["3"]])

    def test_by_words(self):
        chance = random.Random(201)
        for _ in range(120):
            rungs = random_rungs(chance, 6)
            lanes = [[random_ratio(chance) for _ in range(7)] for _ in range(2)]
            ladder = Ladder(rungs)
            for run, is_rounded in ((ladder.run, False), (ladder.run_rounded, True)):
                told = run(lanes[0], tuple(lanes[1]))
                self.assertEqual([[fraction(item) for item in lane] for lane in told],
                                 run_by_words(rungs, lanes, is_rounded))
            late = sum(rung[2] for rung in rungs if rung[0] == "late")
            self.assertEqual(ladder.lateness(), late)
            undone = ladder.undone()
            self.assertEqual([undone.lateness(), undone.undone()], [late, ladder])
            for one, other in ((ladder.run, undone.run), (ladder.run_rounded, undone.run_rounded)):
                first, second = one(lanes[0], lanes[1])
                self.assertEqual(list(other(first, second)), [([Ratio(0)] * late + lane)[:7] for lane in lanes])

    def test_undone_steps(self):
        ladder = Ladder([("add", 0, HALF_LATE), ("take", 1, Poly([1])), ("exchange",), ("factor", 1, Ratio(2, 3)),
                         ("late", 0, 2), ("late", 1, 3)])
        self.assertEqual(ladder.undone().rungs, (
            ("late", 0, 3), ("late", 1, 2), ("factor", 1, Ratio(3, 2)), ("exchange",), ("add", 1, Poly([1])),
            ("take", 0, HALF_LATE)))

    def test_integers_stay_integers(self):
        chance = random.Random(202)
        for _ in range(30):
            rungs = [rung for rung in random_rungs(chance, 6) if rung[0] != "factor"] + [("factor", 0, Ratio(-1))]
            lanes = [[chance.randint(-9, 9) for _ in range(8)] for _ in range(2)]
            self.assertEqual({item.bottom for lane in Ladder(rungs).run_rounded(*lanes) for item in lane}, {1})

    def test_without_steps_and_items(self):
        ladder = Ladder([])
        self.assertEqual([ladder.rungs, ladder.lateness(), ladder.undone()], [(), 0, ladder])
        self.assertEqual(ladder.run([1], [2]), ([Ratio(1)], [Ratio(2)]))
        self.assertEqual(Ladder([("late", 0, 1)]).run([], []), ([], []))
        self.assertEqual(ladder.as_machine(),
                         Machine(zeros(0, 0), zeros(0, 2), zeros(2, 0), identity(2), [], [1, 1], [1, 1]))

    def test_machines(self):
        chance = random.Random(203)
        for _ in range(80):
            ladder = Ladder(random_rungs(chance, 6))
            machine = ladder.as_machine()
            self.assertEqual([machine.ins, machine.outs, machine], [(1, 1), (1, 1), machine.at_rest()])
            lanes = [[random_ratio(chance) for _ in range(8)] for _ in range(2)]
            told = ladder.run(lanes[0], lanes[1])
            self.assertEqual(machine.run([list(pair) for pair in zip(*lanes)]), [list(pair) for pair in zip(*told)])

    def test_equality_and_copies(self):
        rungs = [("add", 1, HALF_LATE), ("exchange",)]
        ladder = Ladder(rungs)
        rungs.append(("exchange",))
        self.assertEqual(ladder.rungs, (("add", 1, HALF_LATE), ("exchange",)))
        self.assertEqual(ladder, Ladder((("add", 1, HALF_LATE), ("exchange",))))
        self.assertEqual(ladder, Ladder([["add", 1, Poly([0, Ratio(1, 2)])], ["exchange"]]))
        self.assertEqual(Ladder([["exchange"]]).rungs, (("exchange",),))
        for other in (Ladder(rungs), Ladder([]), Ladder([("take", 1, HALF_LATE), ("exchange",)]), None, ladder.rungs):
            self.assertFalse(ladder == other)
        one, two = [1, 2], [3, 4]
        ladder.run(one, two)[0].append(5)
        self.assertEqual([one, two, ladder.run(one, two)], [[1, 2], [3, 4], ladder.run(one, two)])

    def test_wrong_steps(self):
        self.each_bad(Ladder, [None, 1, "x", {}, True, 1.0, Poly([1]), object(), b"a"])
        for rung in [None, 1, "exchange", (), [], ("exchange", 1), ("exchange", 0, 1), ("swap",), ("add", 0),
                     ("add", 2, HALF_LATE), ("add", True, HALF_LATE), ("add", 0, Ratio(1)), ("add", 0, 1),
                     ("add", 0, [1]), ("take", -1, HALF_LATE), ("take", "0", HALF_LATE), ("take", 0, HALF_LATE, 1),
                     ("take", Ratio(0), HALF_LATE), ("factor", 0, 1), ("factor", 0, Ratio(0)), ("factor", 2, Ratio(1)),
                     ("factor", 0, True), ("factor", 0), ("late", 0, 0), ("late", 0, -1), ("late", 0, True),
                     ("late", 0, Ratio(1)), ("late", 2, 1), ("late", 0), (1, 0, 1), (None,), (["add"], 0, HALF_LATE),
                     (Poly([1]), 0, 1), {"add": 1}]:
            with self.subTest(rung=rung):
                self.bad(rung, lambda: Ladder([("exchange",), rung, None]))

    def test_wrong_lanes(self):
        ladder = Ladder([])
        for run in (ladder.run, ladder.run_rounded):
            for value in (None, 1, "x", {}, True, 1.0, Ratio(1), object()):
                self.bad(value, lambda: run(value, []))
                self.bad(value, lambda: run([], value))
            for item in (None, True, "x", 1.5, [1], object()):
                self.bad(item, lambda: run([1, item, None], [None]))
                self.bad(item, lambda: run([1], [item]))
            for second in ([], [1], [1, 2, 3], (1,)):
                self.bad(second, lambda: run([1, 2], second))


class Laddered(Case):
    def check(self, machine, chance):
        ladder = ladder_of(machine)
        self.assertIs(type(ladder), Ladder)
        lanes = [[random_ratio(chance) for _ in range(machine.size() + 8)] for _ in range(2)]
        told = ladder.run(lanes[0], lanes[1])
        self.assertEqual(machine.at_rest().run([list(pair) for pair in zip(*lanes)]), [list(pair) for pair in zip(*told)])
        self.assertEqual(ladder, ladder_of(machine))

    def test_ladders_are_found_again(self):
        chance = random.Random(204)
        for _ in range(80):
            self.check(Ladder(random_rungs(chance, 6)).as_machine(), chance)

    def test_lanes_and_starts(self):
        machine = Ladder([("add", 1, HALF_LATE), ("late", 1, 1)]).as_machine()
        self.check(changed(machine, ins=[2], outs=[1, 1], start=[1] * machine.size()), random.Random(205))
        self.check(changed(machine, outs=[2]), random.Random(205))

    def test_powers_that_do_not_divide_what_is_beside_them(self):
        # z and z on the diagonal, and 1 right of them: the late steps are 0 and 2.
        line = Machine(Matrix([[0, 0], [0, 0]]), Matrix([[1, 0], [0, 1]]), Matrix([[1, 0], [0, 1]]),
                       Matrix([[0, 1], [0, 0]]), [0, 0], [1, 1], [1, 1])
        self.check(line, random.Random(206))
        self.assertEqual(ladder_of(line).lateness(), 2)

    def test_none(self):
        nothing = zeros(0, 0), zeros(0, 2), zeros(2, 0)
        for told in ([[0, 0], [0, 0]], [[1, 2], [2, 4]]):
            self.assertIsNone(ladder_of(Machine(*nothing, Matrix(told), [], [1, 1], [2])))
        # The determinant is 1 - z, and z - z * z.
        other = Machine(Matrix([[0]]), Matrix([[1, 0]]), Matrix([[-1], [0]]), identity(2), [0], [1, 1], [1, 1])
        self.assertIsNone(ladder_of(other))
        late = changed(other, d=Matrix([[0, 1], [0, 1]]), c=Matrix([[1], [1]]))
        self.assertIsNone(ladder_of(late))

    def test_by_chance(self):
        chance = random.Random(207)
        found = {True: 0, False: 0}
        while min(found.values()) < 12:
            machine = loopless_machine(chance, chance.randint(0, 3), 2, 2, 7)
            answers = [machine.answer(turn) for turn in range(machine.size() + 1)]
            rows = [[Poly([answer.rows[row][column] for answer in answers]) for column in range(2)] for row in range(2)]
            worth = rows[0][0] * rows[1][1] - rows[0][1] * rows[1][0]
            is_ladder = bool(worth.parts) and worth.low() == worth.degree()
            found[is_ladder] += 1
            if is_ladder:
                self.check(machine, chance)
            else:
                self.assertIsNone(ladder_of(machine))

    def test_errors(self):
        self.each_bad(ladder_of)
        self.bad(HALF, lambda: ladder_of(HALF))
        for height, width in ((2, 1), (1, 2), (3, 2), (2, 3)):
            machine = Machine(zeros(0, 0), zeros(0, width), zeros(height, 0), zeros(height, width), [], [width], [height])
            self.bad(machine, lambda: ladder_of(machine))
        loop = Machine(Matrix([[1]]), Matrix([[1, 0]]), Matrix([[1], [0]]), identity(2), [0], [1, 1], [1, 1])
        self.raises(HasLoops, lambda: ladder_of(loop))
        singular = changed(loop, d=zeros(2, 2))
        self.raises(HasLoops, lambda: ladder_of(singular))

    def test_60_states(self):
        chance = random.Random(208)
        ladder = Ladder([("add", 0, random_poly(chance, 19, 3)), ("late", 0, 2), ("take", 1, random_poly(chance, 19, 3)),
                         ("exchange",), ("add", 1, random_poly(chance, 19, 3))])
        machine = ladder.as_machine()
        self.assertEqual(machine.size(), 59)
        self.check(machine, chance)
        lanes = [[chance.randint(-9, 9) for _ in range(400)] for _ in range(2)]
        told = ladder.undone().run_rounded(*ladder.run_rounded(*lanes))
        self.assertEqual([[item.top for item in lane] for lane in told], [[0, 0, *lane[:398]] for lane in lanes])


if __name__ == "__main__":
    unittest.main()
