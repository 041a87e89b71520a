"""[2], [8], [70]: ratios."""

import random
import unittest
from fractions import Fraction

from allstreams.errors import NoDivisor
from allstreams.ratios import Ratio
from tests.helpers import Case, STRANGE, fraction


def pairs(many=300):
    chance = random.Random(8)
    for _ in range(many):
        size = chance.choice([3, 20, 10 ** 40])
        one, other = [
            (chance.randint(-size, size), chance.choice([-1, 1]) * chance.randint(1, size)) for _ in range(2)
        ]
        yield one, other


class Ratios(Case):
    def test_lowest_terms_and_bottom_from_1_on(self):
        told = [(ratio.top, ratio.bottom) for ratio in (Ratio(4, -6), Ratio(0, -7), Ratio(-3, -9), Ratio(5), Ratio(6, 3))]
        self.assertEqual(told, [(-2, 3), (0, 1), (1, 3), (5, 1), (2, 1)])

    def test_by_name(self):
        self.assertEqual(Ratio(bottom=-4, top=6), Ratio(-3, 2))
        self.assertEqual(Ratio(2, 3).power(exponent=2), Ratio(4, 9))
        self.assertEqual(Ratio(2, 3).compare(other=1), -1)

    def test_wrong_arguments(self):
        self.each_bad(lambda value: Ratio(value))
        self.each_bad(lambda value: Ratio(1, value))
        first, second = [1], "x"
        self.bad(first, lambda: Ratio(first, second))
        self.bad(second, lambda: Ratio(0, second))
        self.raises(NoDivisor, lambda: Ratio(3, 0))
        self.bad(Ratio, lambda: Ratio(Ratio, 0))
        half = Ratio(1, 2)
        self.bad(half, lambda: Ratio(half, 2))

    def test_signs(self):
        for (top, bottom), (other_top, other_bottom) in pairs():
            one, other = Ratio(top, bottom), Ratio(other_top, other_bottom)
            left, right = Fraction(top, bottom), Fraction(other_top, other_bottom)
            self.assertEqual(fraction(one + other), left + right)
            self.assertEqual(fraction(one - other), left - right)
            self.assertEqual(fraction(one * other), left * right)
            self.assertEqual(fraction(-one), -left)
            self.assertEqual(fraction(one + other_top), left + other_top)
            self.assertEqual(fraction(other_top + one), left + other_top)
            self.assertEqual(fraction(one - other_top), left - other_top)
            self.assertEqual(fraction(other_top - one), other_top - left)
            self.assertEqual(fraction(one * other_top), left * other_top)
            self.assertEqual(fraction(other_top * one), left * other_top)
            self.assertEqual((one.top, one.bottom), (left.numerator, left.denominator))

    def test_methods(self):
        for (top, bottom), (other_top, other_bottom) in pairs():
            one, other = Ratio(top, bottom), Ratio(other_top, other_bottom)
            left, right = Fraction(top, bottom), Fraction(other_top, other_bottom)
            self.assertEqual(one.sign(), (left > 0) - (left < 0))
            self.assertIs(type(one.sign()), int)
            self.assertEqual(fraction(one.size()), abs(left))
            self.assertEqual(one.floor(), left.numerator // left.denominator)
            self.assertEqual(one.compare(other), (left > right) - (left < right))
            self.assertEqual(one.compare(other_top), (left > other_top) - (left < other_top))
            self.assertEqual(one.compare(one), 0)
            self.assertEqual(str(one), str(left))
            if top:
                self.assertEqual(fraction(one.inverse()), 1 / left)
                self.assertEqual(fraction(one.power(-3)), left ** -3)
            self.assertEqual(fraction(one.power(5)), left ** 5)

    def test_powers_at_the_edge(self):
        nought = Ratio(0)
        self.assertEqual(nought.power(0), Ratio(1))
        self.assertEqual(nought.power(1), nought)
        self.assertEqual(Ratio(-2, 3).power(0), Ratio(1))
        self.assertEqual(Ratio(-2, 3).power(-1), Ratio(-3, 2))
        self.raises(NoDivisor, lambda: nought.power(-1))
        self.raises(NoDivisor, lambda: nought.inverse())
        self.assertEqual(Ratio(-1).power(1001), Ratio(-1))
        self.assertEqual(Ratio(2).power(4000).top, 2 ** 4000)
        self.each_bad(lambda value: nought.power(value))
        exponent = Ratio(2)
        self.bad(exponent, lambda: nought.power(exponent))

    def test_floors(self):
        told = [Ratio(top, 2).floor() for top in (-4, -3, -1, 0, 1, 3, 4)]
        self.assertEqual(told, [-2, -2, -1, 0, 0, 1, 2])

    def test_other_operands(self):
        half = Ratio(1, 2)
        for value in STRANGE:
            with self.subTest(value=value):
                self.bad(value, lambda: half + value)
                self.bad(value, lambda: value + half)
                self.bad(value, lambda: half - value)
                self.bad(value, lambda: value - half)
                self.bad(value, lambda: half * value)
                self.bad(value, lambda: value * half)
                self.bad(value, lambda: half.compare(value))

    def test_equality(self):
        self.assertTrue(Ratio(2, 4) == Ratio(1, 2))
        self.assertFalse(Ratio(1, 2) == Ratio(1, 3))
        self.assertTrue(Ratio(1, 2) != Ratio(3, 2))
        for value in [*STRANGE, 1, Fraction(1)]:
            self.assertFalse(Ratio(1) == value)
            self.assertFalse(value == Ratio(1))
            self.assertTrue(Ratio(1) != value)

    def test_written_out(self):
        self.assertEqual([str(Ratio(3)), str(Ratio(1, -3)), str(Ratio(0)), str(Ratio(-12, 1))], ["3", "-1/3", "0", "-12"])
        self.assertEqual(f"{Ratio(1, 2)}", "1/2")

    def test_numbers_longer_than_python_writes_at_once(self):
        many = "".join(str(digit % 7) for digit in range(1, 9001))
        number = 0
        for digit in many:
            number = 10 * number + int(digit)
        self.assertEqual(str(Ratio(-number)), "-" + many)
        self.assertEqual(str(Ratio(10 ** 5000)), "1" + "0" * 5000)
        self.assertEqual(str(Ratio(10 ** 60, 10 ** 120 + 1)), "1" + "0" * 60 + "/1" + "0" * 119 + "1")

    def test_nothing_changes(self):
        one, other = Ratio(1, 2), Ratio(3, 4)
        for call in (lambda: one + other, lambda: one * other, lambda: one - other, lambda: -one, one.inverse, one.size):
            call()
        more = one
        more += other
        self.assertEqual([one, other, more], [Ratio(1, 2), Ratio(3, 4), Ratio(5, 4)])


if __name__ == "__main__":
    unittest.main()
