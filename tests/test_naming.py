"""[34], [93]: the machine of a text."""

import random
import unittest

from allstreams.errors import StandsStill, TooMany, Unpaced
from allstreams.machines import Machine
from allstreams.matrices import Matrix, zeros
from allstreams.naming import machine_of
from allstreams.paces import paces
from allstreams.ratios import Ratio
from allstreams.reader import read_texts
from allstreams.wiring import Text
from tests.helpers import Case
from tests.random_machines import fractions_in
from tests.random_texts import living_text
from tests.streams_oracle import Oracle
from tests.test_needs import LONG, ODD, one_text
from tests.test_plans import HALVES, STUCK


def state_boxes(text):
    return [statement for statement in text.statements if statement[0] in ("delay", "source")]


def with_states(text, states):
    """The text with these told items, box by box."""
    left, rows = list(states), []
    for statement in text.statements:
        if statement in state_boxes(text):
            many = len(statement[2])
            statement = (*statement[:2], tuple(left[:many]), *statement[3:])
            left = left[many:]
        rows.append(statement)
    return Text(text.name, text.ins, text.outs, rows)


def turned_once(text, told, states, given):
    """What a text tells in a turn that begins with these states, and its states behind this turn."""
    streams, first = {}, 0
    for name in text.ins:
        streams[name] = given[first:first + told[name]]
        first += told[name]
    oracle = Oracle(with_states(text, states), streams)
    tells = [oracle.item(name, place) for name in text.outs for place in range(told[name])]
    later = []
    for _, wire, items, *_ in state_boxes(text):
        later += [oracle.item(wire, told[wire] + place) for place in range(len(items))]
    return tells, later


def units(many):
    return [[Ratio(1 if place == at else 0) for place in range(many)] for at in range(many)]


class Naming(Case):
    def test_of_the_document(self):
        machine = machine_of(one_text("y = u + 1/2*d\nd = delay [0, -3] y"))
        self.assertEqual(machine, Machine(
            Matrix([[0, 1], [Ratio(1, 2), 0]]), Matrix([[0], [1]]), Matrix([[Ratio(1, 2), 0]]), Matrix([[1]]),
            [0, -3], [1], [1]))

    def test_no_states_no_ins(self):
        self.assertEqual(machine_of(one_text("y = 2*u")),
                         Machine(zeros(0, 0), zeros(0, 1), zeros(1, 0), Matrix([[2]]), [], [1], [1]))
        self.assertEqual(machine_of(one_text("y = delay [5] y", ins="")),
                         Machine(Matrix([[1]]), zeros(1, 0), Matrix([[1]]), zeros(1, 0), [5], [], [1]))

    def test_sources(self):
        machine = machine_of(one_text("s = source [1, 2, 3]\nt = thin 2 0 s\ny = s", ins=""))
        self.assertEqual(machine.a, Matrix([[0, 0, 1], [1, 0, 0], [0, 1, 0]]))
        self.assertEqual([machine.c, machine.start], [Matrix([[1, 0, 0], [0, 1, 0]]), (Ratio(1), Ratio(2), Ratio(3))])
        short = machine_of(one_text("s = source [4]\nt = thin 3 0 s\ny = s", ins=""))
        self.assertEqual([short.a, short.c], [Matrix([[1]]), Matrix([[1], [1], [1]])])

    def test_delays_shorter_and_longer_than_their_pace(self):
        short = machine_of(one_text("d = delay [7] u\ny = d\nt = thin 3 0 u"))
        self.assertEqual([short.a, short.b, short.c], [
            Matrix([[0]]), Matrix([[0, 0, 1]]), Matrix([[1], [0], [0]])])
        self.assertEqual(short.d, Matrix([[0, 0, 0], [1, 0, 0], [0, 1, 0]]))
        longer = machine_of(one_text("d = delay [7, 8, 9] u\ny = d\nt = thin 2 0 u"))
        self.assertEqual(longer.a, Matrix([[0, 0, 1], [0, 0, 0], [0, 0, 0]]))
        self.assertEqual(longer.b, Matrix([[0, 0], [1, 0], [0, 1]]))
        self.assertEqual([longer.c, longer.d], [Matrix([[1, 0, 0], [0, 1, 0]]), zeros(2, 2)])
        self.assertEqual(longer.start, (Ratio(7), Ratio(8), Ratio(9)))

    def test_the_order_of_states_and_lanes(self):
        text = read_texts("text a (v, u -> z, y)\ny = u + e\ne = source [1]\nz = v + d\nd = delay [2, 3] y")[0]
        machine = machine_of(text)
        self.assertEqual(machine.start, (Ratio(1), Ratio(2), Ratio(3)))
        self.assertEqual([machine.c, machine.d], [Matrix([[0, 1, 0], [1, 0, 0]]), Matrix([[1, 0], [0, 1]])])
        self.assertEqual([machine.ins, machine.outs], [(1, 1), (1, 1)])
        self.assertEqual(machine_of(HALVES).ins, (2,))

    def test_factors_that_cancel(self):
        machine = machine_of(one_text("a = 2*u\ny = u + u - a + d\nd = delay [1] u"))
        self.assertEqual([machine.d, machine.c], [Matrix([[0]]), Matrix([[1]])])

    def test_against_turns_from_single_states(self):
        chance = random.Random(91)
        states = 0
        for _ in range(120):
            text, told = living_text(chance)
            machine = machine_of(text)
            many, lanes = machine.size(), machine.b.width
            self.assertEqual(machine.start, tuple(item for box in state_boxes(text) for item in box[2]))
            self.assertEqual(machine.ins, tuple(told[name] for name in text.ins))
            self.assertEqual(machine.outs, tuple(told[name] for name in text.outs))
            for place, unit in enumerate(units(many)):
                tells, later = turned_once(text, told, unit, [Ratio(0)] * lanes)
                self.assertEqual([row[place] for row in fractions_in(machine.c.rows)], tells)
                self.assertEqual([row[place] for row in fractions_in(machine.a.rows)], later)
            for place, unit in enumerate(units(lanes)):
                tells, later = turned_once(text, told, [Ratio(0)] * many, unit)
                self.assertEqual([row[place] for row in fractions_in(machine.d.rows)], tells)
                self.assertEqual([row[place] for row in fractions_in(machine.b.rows)], later)
            states += many
        self.assertGreater(states, 100)

    def test_errors(self):
        self.each_bad(machine_of)
        self.raises(Unpaced, lambda: machine_of(ODD), at=2)
        self.raises(TooMany, lambda: machine_of(LONG), most=200)
        self.raises(StandsStill, lambda: machine_of(STUCK))
        self.raises(StandsStill, lambda: machine_of(one_text("y = 0*y + u")))
        self.assertEqual(machine_of(HALVES), machine_of(HALVES))
        self.assertEqual(paces(HALVES)["u"], 2)


if __name__ == "__main__":
    unittest.main()
