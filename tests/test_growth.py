"""[49], [50], [106]: bounded machines, and how great outs can be."""

import itertools
import random
import unittest

from allstreams.discs import beyond_disc
from allstreams.errors import StandsStill, TooMany, Unknown, Unpaced
from allstreams.growth import bounded_paper, greatest_at, greatest_of, is_bounded, limits, pole_poly
from allstreams.least import least_machine
from allstreams.machines import Machine
from allstreams.matrices import Matrix, identity, part_of, zeros
from allstreams.naming import machine_of
from allstreams.paces import paces
from allstreams.polymatrices import PolyMatrix
from allstreams.polys import Poly
from allstreams.ratios import Ratio
from allstreams.reader import read_texts
from allstreams.turns import run_turns
from allstreams.wiring import Text
from tests.helpers import Case, fraction
from tests.random_machines import changed, random_machine, random_matrix
from tests.random_texts import living_text
from tests.test_sightless import with_start
from tests.test_stairs import silent

ONE = Ratio(1)
Z = Poly([0, 1])


def loop(*ratios):
    """A machine with a state for each ratio, which multiplies it turn by turn, all reached and all seen."""
    many = len(ratios)
    rows = [[ratio if row == column else 0 for column in range(many)] for row, ratio in enumerate(ratios)]
    return Machine(Matrix(rows, many), identity(many), identity(many), zeros(many, many), [5] * many,
                   [1] * many, [1] * many)


def line(ratio, many):
    """A machine with a root so many times: each state is given to the next one."""
    rows = [[ratio if row == column else (1 if column == row - 1 else 0) for column in range(many)]
            for row in range(many)]
    first, last = Matrix([[1 if row == 0 else 0] for row in range(many)]), [0] * (many - 1) + [1]
    return Machine(Matrix(rows), first, Matrix([last]), zeros(1, 1), [0] * many, [1], [1])


def rotating(size):
    """Two states that turn by a right angle and are multiplied by a ratio."""
    return Machine(Matrix([[0, -size], [size, 0]]), Matrix([[1], [0]]), Matrix([[1, 0]]), Matrix([[3]]), [0, 0], [1],
                   [1])


def wild(machine):
    """The machine with a state more that grows, but that nothing reaches, and one that nothing shows."""
    many = machine.size()
    a = [[*row, 7, 0] for row in machine.a.rows] + [[0] * many + [3, 0], [1] * many + [0, 4]]
    b = [*machine.b.rows, [0] * machine.b.width, [9] * machine.b.width]
    c = [[*row, 2, 0] for row in machine.c.rows]
    return Machine(Matrix(a, many + 2), Matrix(b, machine.b.width), Matrix(c, many + 2), machine.d,
                   [*machine.start, 1, 1], machine.ins, machine.outs)


class Bounded(Case):
    def test_pole_polys(self):
        for machine in (loop(), loop(Ratio(1, 2)), loop(3, Ratio(-2, 3)), line(Ratio(1, 2), 4), rotating(2)):
            least = least_machine(machine.at_rest())
            rows = [[(1 if row == column else 0) - Z * entry for column, entry in enumerate(entries)]
                    for row, entries in enumerate(least.a.rows)]
            told = PolyMatrix(rows, least.size()).determinant()
            self.assertEqual(pole_poly(machine), told)
            self.assertEqual(pole_poly(wild(machine)), told)
            self.assertEqual(pole_poly(with_start(machine, [1] * machine.size())), told)
        self.assertEqual(pole_poly(loop()), Poly([1]))
        self.assertEqual(pole_poly(line(2, 3)), (1 - 2 * Z).power(3))
        self.assertEqual(pole_poly(silent(3, 1, 1)), Poly([1]))

    def test_by_chance(self):
        chance = random.Random(311)
        seen = set()
        for number in range(120):
            machine = random_machine(chance, chance.randint(0, 4), chance.randint(0, 2), chance.randint(0, 3), 5)
            if number % 2:
                machine = changed(machine, a=machine.a * Ratio(1, 4))
            poly = pole_poly(machine)
            least = least_machine(machine.at_rest())
            rows = [[(1 if row == column else 0) - Z * entry for column, entry in enumerate(entries)]
                    for row, entries in enumerate(least.a.rows)]
            self.assertEqual(poly, PolyMatrix(rows, least.size()).determinant())
            self.assertEqual(is_bounded(machine), beyond_disc(poly))
            self.check_paper(machine)
            seen.add((is_bounded(machine), least.size()))
        self.assertGreater(len(seen), 6)

    def check_paper(self, machine):
        paper = bounded_paper(machine)
        if not is_bounded(machine):
            self.assertIsNone(paper)
            self.assertIsNone(limits(machine))
            return
        a = least_machine(machine.at_rest()).a
        self.assertEqual(paper - a.turned() * paper * a, identity(a.height))
        for many in range(1, a.height + 1):
            places = list(range(many))
            self.assertEqual(part_of(paper, places, places).determinant().sign(), 1)

    def test_roots_about_the_size_1(self):
        tiny = Ratio(1, 10 ** 40)
        for ratio in (ONE, -ONE, ONE + tiny, -ONE - tiny):
            for many in (1, 2, 4):
                self.assertFalse(is_bounded(line(ratio, many)))
                self.check_paper(line(ratio, many))
        for ratio in (ONE - tiny, tiny - ONE, Ratio(0), Ratio(1, 3)):
            for many in (1, 2, 3):
                self.assertTrue(is_bounded(line(ratio, many)))
                self.check_paper(line(ratio, many))
        self.assertEqual([is_bounded(rotating(size)) for size in (ONE, ONE - tiny, ONE + tiny)], [False, True, False])
        self.check_paper(rotating(ONE - tiny))
        self.assertEqual([is_bounded(loop(Ratio(1, 2), 1)), is_bounded(loop(Ratio(1, 2), Ratio(1, 3)))], [False, True])

    def test_states_that_nothing_reaches_or_shows(self):
        for machine in (loop(), loop(Ratio(1, 2)), rotating(Ratio(2, 3))):
            self.assertTrue(is_bounded(wild(machine)))
            self.assertEqual(bounded_paper(wild(machine)), bounded_paper(machine))
            self.check_paper(wild(machine))
        # The start of what grows has no influence, though the outs with it are without a bound.
        machine = with_start(wild(loop(Ratio(1, 2))), [0, 1, 0])
        self.assertEqual([str(bounded_paper(machine)), is_bounded(machine)], ["[4/3]", True])

    def test_papers_without_states(self):
        for machine in (loop(), silent(2, 1, 1), silent(0, 0, 0), silent(2, 0, 0)):
            self.assertEqual(bounded_paper(machine), Matrix([]))

    def test_limits(self):
        chance = random.Random(312)
        for number in range(40):
            machine = random_machine(chance, chance.randint(0, 4), chance.randint(0, 2), chance.randint(1, 2), 5)
            machine = changed(machine, a=machine.a * Ratio(1, 5))
            told = limits(machine)
            self.assertEqual([type(told), len(told)], [tuple, machine.c.height])
            resting = machine.at_rest()
            for lane, most in enumerate(told):
                for turn in (0, 1, 5, 30):
                    self.assertLessEqual(fraction(greatest_at(resting, lane, turn)[0]), fraction(most))
        self.assertEqual(limits(silent(2, 2, 0)), ())
        self.assertEqual(limits(silent(2, 0, 2)), (Ratio(0), Ratio(0)))
        self.assertEqual(limits(changed(silent(0, 2, 1), d=Matrix([[2, Ratio(-1, 2)]]))), (Ratio(5, 2),))
        self.assertIsNone(limits(line(1, 1)))
        slow = line(ONE - Ratio(1, 1000), 1)
        self.assertLessEqual(fraction(greatest_at(slow, 0, 400)[0]), fraction(limits(slow)[0]))
        self.assertGreaterEqual(fraction(limits(slow)[0]), 1000)
        self.assertEqual(limits(wild(loop(Ratio(1, 2)))), limits(loop(Ratio(1, 2))))
        self.assertEqual(limits(loop(Ratio(1, 2), Ratio(-1, 3))), (Ratio(2), Ratio(2)))
        # States that grow a lot before they decay.
        for many in (2, 3):
            machine = line(Ratio(99, 100), many)
            self.assertLessEqual(fraction(greatest_at(machine, 0, 400)[0]), fraction(limits(machine)[0]))
            self.assertEqual(limits(wild(machine)), limits(machine))
        tiny = Ratio(1, 10 ** 40)
        self.assertGreaterEqual(fraction(limits(line(ONE - tiny, 2))[0]), 10 ** 80)


class Greatest(Case):
    def check(self, machine, lane, turn):
        size, columns = told = greatest_at(machine, lane, turn)
        self.assertEqual([type(told), type(size), type(columns), len(columns)], [tuple, Ratio, list, turn + 1])
        for column in columns:
            self.assertEqual([type(column), len(column)], [list, machine.b.width])
            self.assertTrue(all(type(item) is Ratio and item in (ONE, -ONE) for item in column))
        self.assertEqual(machine.run(columns)[turn][lane].size(), size)
        return size

    def test_against_all_streams(self):
        chance = random.Random(313)
        for _ in range(40):
            lanes = chance.randint(0, 2)
            machine = random_machine(chance, chance.randint(0, 3), lanes, chance.randint(1, 2), 4)
            turn = chance.randint(0, 3 if lanes < 2 else 2)
            lane = chance.randrange(machine.c.height)
            size = self.check(machine, lane, turn)
            told = [
                machine.run([items[lanes * at:lanes * at + lanes] for at in range(turn + 1)])[turn][lane]
                for items in itertools.product([1, -1], repeat=lanes * (turn + 1))
            ]
            self.assertEqual(fraction(size), max(abs(fraction(item)) for item in told))

    def test_by_its_words(self):
        chance = random.Random(314)
        for _ in range(40):
            machine = random_machine(chance, chance.randint(0, 4), chance.randint(0, 3), chance.randint(1, 3), 5)
            lane, turn = chance.randrange(machine.c.height), chance.choice([0, 1, 2, 7])
            start = Matrix([[item] for item in machine.start], 1)
            total = (machine.c * machine.a.power(turn) * start).rows[lane][0].size()
            for number in range(turn + 1):
                for entry in machine.answer(number).rows[lane]:
                    total = total + entry.size()
            self.assertEqual(self.check(machine, lane, turn), total)

    def test_edges(self):
        # A zero answer below 0 turns all signs; entries that are 0 may have either.
        machine = Machine(Matrix([[1]]), Matrix([[1, 0]]), Matrix([[1]]), Matrix([[2, 0]]), [-5], [1, 1], [1])
        self.assertEqual(self.check(machine, 0, 0), Ratio(7))
        self.assertEqual(greatest_at(machine, 0, 0)[1][0][0], Ratio(-1))
        self.assertEqual(self.check(machine, 0, 3), Ratio(10))
        self.assertEqual(self.check(with_start(machine, [5]), 0, 3), Ratio(10))
        self.assertEqual(self.check(with_start(machine, [0]), 0, 3), Ratio(5))
        self.assertEqual(greatest_at(silent(1, 0, 1), 0, 2), (Ratio(0), [[], [], []]))
        half = Machine(Matrix([[Ratio(1, 2)]]), Matrix([[1]]), Matrix([[1]]), Matrix([[0]]), [0], [1], [1])
        self.assertEqual([str(greatest_at(half, 0, turn)[0]) for turn in range(5)], ["0", "1", "3/2", "7/4", "15/8"])

    def test_wrong_inputs(self):
        machine = random_machine(random.Random(315), 2, 1, 2)
        for call in (pole_poly, is_bounded, bounded_paper, limits):
            self.each_bad(call)
        self.each_bad(lambda value: greatest_at(value, 0, 0))
        self.each_bad(lambda value: greatest_at(machine, value, 0))
        self.each_bad(lambda value: greatest_at(machine, 0, value))
        for lane in (2, -1, 10 ** 30):
            self.bad(lane, lambda: greatest_at(machine, lane, 0))
        self.bad(-1, lambda: greatest_at(machine, 1, -1))
        self.bad(0, lambda: greatest_at(silent(1, 1, 0), 0, 0))
        # The first wrong one is told.
        self.bad("m", lambda: greatest_at("m", "l", "t"))
        self.bad("l", lambda: greatest_at(machine, "l", "t"))


class OfTexts(Case):
    def check(self, text, out, place):
        size, ins = told = greatest_of(text, out, place)
        turns = place // paces(text)[out] + 1
        self.assertEqual([type(told), type(size), type(ins), sorted(ins)], [tuple, Ratio, dict, sorted(text.ins)])
        for name, items in ins.items():
            self.assertEqual([type(items), len(items)], [list, turns * paces(text)[name]])
            self.assertTrue(all(type(item) is Ratio and item in (ONE, -ONE) for item in items))
        self.assertEqual(run_turns(text, ins, turns)[out][place].size(), size)
        return size

    def test_every_lane_of_a_turn(self):
        text = read_texts("text a (u, v -> y, z)\nh = hold 3 u\ny = h + 1/2*d - 2*w\nd = delay [-1, 4] y\n"
                          "w = weave v v v\nz = thin 3 1 y\n")[0]
        self.assertEqual(paces(text), {"u": 1, "v": 1, "h": 3, "y": 3, "d": 3, "w": 3, "z": 1})
        machine = machine_of(text)
        for place in range(9):
            self.assertEqual(self.check(text, "y", place), greatest_at(machine, place % 3, place // 3)[0])
        for place in range(4):
            self.assertEqual(self.check(text, "z", place), greatest_at(machine, 3, place)[0])
        self.assertEqual([str(greatest_of(text, "y", place)[0]) for place in range(3)], ["7/2", "5", "19/4"])

    def test_by_chance(self):
        chance = random.Random(316)
        for _ in range(30):
            text, told = living_text(chance, range(1, 6), 30)
            out = chance.choice(text.outs)
            place = chance.randrange(3 * told[out])
            size = self.check(text, out, place)
            for _ in range(3):
                turns = place // told[out] + 1
                ins = {name: [chance.choice([1, -1, 0, Ratio(1, 2)]) for _ in range(turns * told[name])]
                       for name in text.ins}
                self.assertLessEqual(abs(fraction(run_turns(text, ins, turns)[out][place])), fraction(size))

    def test_without_ins(self):
        text = read_texts("text tick (-> y)\ny = source [2, -3]\n")[0]
        self.assertEqual([greatest_of(text, "y", place) for place in (0, 1, 2)],
                         [(Ratio(2), {}), (Ratio(3), {}), (Ratio(2), {})])

    def test_errors(self):
        stuck, odd, long, plain = read_texts(
            "text stuck (x -> w)\nw = weave v x\nv = thin 2 1 w\ntext odd (u -> y)\nh = hold 2 u\ny = u + h\n"
            "text long (u -> y)\na = hold 15 u\ny = hold 15 a\ntext plain (u -> y)\ny = u\n")
        self.raises(Unpaced, lambda: greatest_of(odd, "q", 0), at=2)
        self.raises(TooMany, lambda: greatest_of(long, "q", 0), most=200)
        self.raises(StandsStill, lambda: greatest_of(stuck, "q", 0))
        self.raises(Unknown, lambda: greatest_of(plain, "q", 0), name="q")
        self.raises(Unknown, lambda: greatest_of(plain, "u", 0), name="u")
        self.raises(Unknown, lambda: greatest_of(plain, "", 0), name="")

    def test_wrong_inputs(self):
        text = read_texts("text plain (u -> y)\ny = u\n")[0]
        odd = read_texts("text odd (u -> y)\nh = hold 2 u\ny = u + h\n")[0]
        self.each_bad(lambda value: greatest_of(value, "y", 0))
        self.each_bad(lambda value: greatest_of(odd, value, 0), but=("x", ""))
        self.each_bad(lambda value: greatest_of(odd, "q", value))
        self.bad(-1, lambda: greatest_of(odd, "q", -1))
        self.bad(None, lambda: greatest_of(odd, None, None))
        self.assertEqual(greatest_of(text=text, out="y", place=1), greatest_of(text, "y", 1))
        self.assertEqual(text, Text("plain", ["u"], ["y"], [("sum", "y", ((ONE, "u"),))]))


class Sizes(Case):
    """[123]."""

    def test_great_machines(self):
        chance = random.Random(317)
        a = random_matrix(chance, 60, 60, 9, 1, (8,))
        machine = Machine(a, random_matrix(chance, 60, 3, 8), random_matrix(chance, 2, 60, 8), zeros(2, 3), [1] * 60,
                          [3], [2])
        self.assertTrue(is_bounded(machine))
        self.assertEqual(len(limits(machine)), 2)
        size, columns = greatest_at(machine, 1, 399)
        self.assertEqual(machine.run(columns)[399][1].size(), size)
        delays = line(0, 60)
        paper = bounded_paper(delays)
        self.assertEqual(paper - delays.a * paper * delays.a.turned(), identity(60))
        lanes = loop(*[Ratio(number % 7, 9) for number in range(60)])
        paper = bounded_paper(lanes)
        self.assertEqual([entry for entry in paper.rows[1][:3]], [Ratio(0), Ratio(81, 80), Ratio(0)])


if __name__ == "__main__":
    unittest.main()
