"""[2], [9], [10], [71]: polys, and how they are written out."""

import random
import unittest
from fractions import Fraction

from allstreams.errors import NoDivisor
from allstreams.polys import Poly, common_paper, poly_text
from allstreams.ratios import Ratio
from tests.helpers import Case, STRANGE, fraction, fractions_of, random_poly, random_ratio

Z = Poly([0, 1])
NOUGHT = Poly([])


def trimmed(parts):
    parts = list(parts)
    while parts and parts[-1] == 0:
        parts.pop()
    return parts


def plain_product(one, other):
    parts = [Fraction(0)] * (len(one) + len(other))
    for number, left in enumerate(one):
        for place, right in enumerate(other):
            parts[number + place] += left * right
    return trimmed(parts)


def plain_factor(one, other):
    """Euclid's common factor, monic."""
    while other:
        rest = list(one)
        while len(rest) >= len(other):
            times = rest[-1] / other[-1]
            for number, part in enumerate(other):
                rest[len(rest) - len(other) + number] -= times * part
            rest.pop()
        one, other = other, trimmed(rest)
    return [part / one[-1] for part in one]


class Polys(Case):
    def test_parts_without_noughts_at_the_end(self):
        self.assertEqual(Poly([1, Ratio(1, 2), 0, Ratio(0)]).parts, (Ratio(1), Ratio(1, 2)))
        self.assertEqual(Poly((0, 0)).parts, ())
        self.assertEqual(Poly([]).parts, ())
        self.assertEqual(Poly(parts=[0, 3]), 3 * Z)
        self.assertIs(type(Poly([7]).parts[0]), Ratio)

    def test_wrong_parts(self):
        self.each_bad(Poly, [value for value in STRANGE if not isinstance(value, (list, tuple))])
        self.bad(3, lambda: Poly(3))
        half = Ratio(1, 2)
        self.bad(half, lambda: Poly(half))
        self.each_bad(lambda value: Poly([1, value, "x"]))
        self.each_bad(lambda value: Poly((value, None)))
        self.bad(Z, lambda: Poly([Z]))

    def test_a_list_is_copied(self):
        parts = [1, 2]
        poly = Poly(parts)
        parts[0] = 5
        parts.append(7)
        self.assertEqual(poly, 1 + 2 * Z)
        self.assertEqual(parts, [5, 2, 7])

    def test_signs(self):
        chance = random.Random(9)
        for _ in range(300):
            one, other = [random_poly(chance, chance.randint(-1, 6)) for _ in range(2)]
            ratio = random_ratio(chance)
            left, right = fractions_of(one), fractions_of(other)
            self.assertEqual(fractions_of(one * other), plain_product(left, right))
            many = max(len(left), len(right))
            left, right = [parts + [0] * (many - len(parts)) for parts in (left, right)]
            self.assertEqual(fractions_of(one + other), trimmed(a + b for a, b in zip(left, right)))
            self.assertEqual(fractions_of(one - other), trimmed(a - b for a, b in zip(left, right)))
            self.assertEqual(-one, NOUGHT - one)
            whole = chance.randint(-3, 3)
            for number in (ratio, whole):
                constant = Poly([number])
                self.assertEqual([one + number, number + one], [one + constant] * 2)
                self.assertEqual([one - number, number - one], [one - constant, constant - one])
                self.assertEqual([one * number, number * one], [one * constant] * 2)

    def test_other_operands(self):
        poly = 1 + Z
        for value in STRANGE:
            with self.subTest(value=value):
                self.bad(value, lambda: poly + value)
                self.bad(value, lambda: value + poly)
                self.bad(value, lambda: poly - value)
                self.bad(value, lambda: value - poly)
                self.bad(value, lambda: poly * value)
                self.bad(value, lambda: value * poly)

    def test_long_products(self):
        chance = random.Random(1)
        one, other = [random_poly(chance, 23, 10 ** 300, (1, 10 ** 299 + 7)) for _ in range(2)]
        self.assertEqual(fractions_of(one * other), plain_product(fractions_of(one), fractions_of(other)))
        self.assertEqual((one * other).divided(other), (one, NOUGHT))

    def test_powers(self):
        self.assertEqual(NOUGHT.power(0), Poly([1]))
        self.assertEqual(NOUGHT.power(3), NOUGHT)
        self.assertEqual((1 + Z).power(4), Poly([1, 4, 6, 4, 1]))
        self.assertEqual((1 - Z).power(exponent=1), 1 - Z)
        self.each_bad(Z.power)
        self.bad(-1, lambda: Z.power(-1))

    def test_degree_low_and_parts(self):
        poly = Poly([0, 0, 3, 0, Ratio(1, 2)])
        self.assertEqual([poly.degree(), poly.low(), NOUGHT.degree(), NOUGHT.low()], [4, 2, -1, -1])
        self.assertEqual([Poly([7]).degree(), Poly([7]).low()], [0, 0])
        told = [poly.part(number) for number in (0, 2, 4, 5, 1000)]
        self.assertEqual(told, [Ratio(0), Ratio(3), Ratio(1, 2), Ratio(0), Ratio(0)])
        self.assertEqual(NOUGHT.part(number=0), Ratio(0))
        self.each_bad(poly.part)
        self.bad(-1, lambda: poly.part(-1))

    def test_worths(self):
        chance = random.Random(4)
        for _ in range(100):
            poly, ratio = random_poly(chance, chance.randint(-1, 5)), random_ratio(chance)
            worth = sum([part * fraction(ratio) ** number for number, part in enumerate(fractions_of(poly))], Fraction(0))
            self.assertEqual(fraction(poly.worth_at(ratio)), worth)
        self.assertEqual((1 + Z).worth_at(ratio=2), Ratio(3))
        self.assertEqual(NOUGHT.worth_at(7), Ratio(0))
        self.each_bad(Z.worth_at)
        self.bad(Z, lambda: Z.worth_at(Z))

    def test_raised_monic_turned_slope(self):
        poly = Poly([0, 2, Ratio(1, 2), 4])
        self.assertEqual(poly.raised(many=2), Poly([0, 0, 0, 2, Ratio(1, 2), 4]))
        self.assertEqual([poly.raised(0), NOUGHT.raised(3)], [poly, NOUGHT])
        self.each_bad(poly.raised)
        self.bad(-2, lambda: poly.raised(-2))
        self.assertEqual(poly.monic(), Poly([0, Ratio(1, 2), Ratio(1, 8), 1]))
        self.raises(NoDivisor, lambda: NOUGHT.monic())
        self.assertEqual(poly.turned(), Poly([4, Ratio(1, 2), 2]))
        self.assertEqual([(Z * Z).turned(), NOUGHT.turned()], [Poly([1]), NOUGHT])
        self.assertEqual(poly.slope(), Poly([2, 1, 12]))
        self.assertEqual([Poly([5]).slope(), NOUGHT.slope()], [NOUGHT, NOUGHT])

    def test_division(self):
        chance = random.Random(5)
        for _ in range(300):
            one, other = random_poly(chance, chance.randint(-1, 8)), random_poly(chance, chance.randint(0, 5))
            if other == NOUGHT:
                continue
            quotient, rest = one.divided(other)
            self.assertEqual(quotient * other + rest, one)
            self.assertLess(rest.degree(), other.degree())
        self.assertIs(type(Z.divided(Z)), tuple)
        self.assertEqual(Z.divided(other=Poly([2])), (Poly([0, Ratio(1, 2)]), NOUGHT))
        self.assertEqual(NOUGHT.divided(Z), (NOUGHT, NOUGHT))
        self.raises(NoDivisor, lambda: Z.divided(NOUGHT))
        self.raises(NoDivisor, lambda: NOUGHT.divided(NOUGHT))
        self.each_bad(Z.divided)
        one = Ratio(1)
        self.bad(one, lambda: Z.divided(one))
        self.bad(2, lambda: Z.divided(2))

    def test_common_factors(self):
        chance = random.Random(6)
        for _ in range(200):
            one, other, both = [random_poly(chance, chance.randint(-1, 4)) for _ in range(3)]
            one, other = one * both, other * both
            if one == NOUGHT and other == NOUGHT:
                continue
            found = one.common(other)
            self.assertEqual(fractions_of(found), plain_factor(fractions_of(one), fractions_of(other)))
            self.assertEqual(found.parts[-1], Ratio(1))
            self.assertEqual(other.common(one), found)

    def test_common_factors_at_the_edge(self):
        self.assertEqual(NOUGHT.common(NOUGHT), NOUGHT)
        self.assertEqual(NOUGHT.common(2 * Z - 1), Z - Ratio(1, 2))
        self.assertEqual((2 * Z - 1).common(other=NOUGHT), Z - Ratio(1, 2))
        self.assertEqual(Poly([5]).common(Z), Poly([1]))
        self.assertEqual(Poly([5]).common(NOUGHT), Poly([1]))
        self.each_bad(Z.common)
        self.bad(2, lambda: Z.common(2))

    def test_common_factors_that_a_modulus_hides(self):
        for size in (128, 256, 512):
            modulus = 2 ** size + 1
            for number in (modulus, 59649589127497217, 59649589127497217 * 1238926361552897):
                both = number * Z + 1
                self.assertEqual((both * (Z - 3)).common(both * number), both.monic())
                self.assertEqual((Z + number).common(Z), Poly([1]))
                self.assertEqual((Z * (Z + number)).common(Z * (Z + 2 * number)), Z)
                factor, first, second = common_paper(Z + number, Z * number)
                self.assertEqual((factor, first * (Z + number) + second * Z * number), (Poly([1]), Poly([1])))

    def test_last_parts_that_have_no_inverse_by_a_modulus(self):
        # Their product is 2 to the power 128, and 1.
        first, second = 59649589127497217, 5704689200685129054721
        for one, other in ((first, second), (second, first), (first * second, 1), (first, first)):
            both = one * Z + 1
            self.assertEqual((both * (Z - 3)).common(both * (other * Z + 5)), both.monic())
            self.assertEqual((both * (other * Z + 5)).common(both * (Z - 3)), both.monic())
            self.assertEqual((both * (other * Z * Z + 7)).common(both * (other * Z + 5)), both.monic())

    def test_long_common_factors(self):
        chance = random.Random(2)
        one, other, both = [random_poly(chance, degree, 10 ** 100, (1,)) for degree in (12, 12, 11)]
        self.assertEqual((one * both).common(other * both), both.monic())
        self.assertEqual(one.common(other), Poly([1]))

    def test_papers(self):
        chance = random.Random(7)
        for _ in range(150):
            one, other, both = [random_poly(chance, chance.randint(-1, 4)) for _ in range(3)]
            one, other = one * both, other * both
            told = common_paper(one, other)
            self.assertIs(type(told), tuple)
            factor, first, second = told
            self.assertEqual(factor, one.common(other))
            self.assertEqual(first * one + second * other, factor)
        self.assertEqual(common_paper(NOUGHT, NOUGHT)[0], NOUGHT)
        self.assertEqual([type(one) for one in common_paper(NOUGHT, NOUGHT)], [Poly, Poly, Poly])
        self.assertEqual(common_paper(other=Z, one=NOUGHT)[0], Z)
        self.each_bad(lambda value: common_paper(value, "y"))
        self.each_bad(lambda value: common_paper(Z, value))
        self.bad(1, lambda: common_paper(1, Z))

    def test_equality(self):
        self.assertTrue(Poly([1, 0]) == Poly((1,)))
        self.assertFalse(Poly([1]) == Poly([1, 1]))
        self.assertTrue(Poly([1]) != Poly([2]))
        for value in [*STRANGE, 1, Ratio(1), (Ratio(1),)]:
            self.assertFalse(Poly([1]) == value)
            self.assertTrue(value != Poly([1]))

    def test_nothing_changes(self):
        one, other = 1 + Z, Z * Z - 1
        for call in (one.slope, one.turned, one.monic, lambda: one.divided(other), lambda: other.common(one),
                     lambda: common_paper(one, other), lambda: one.raised(3), lambda: one * other, lambda: one + other):
            call()
        self.assertEqual([one.parts, other.parts], [(Ratio(1), Ratio(1)), (Ratio(-1), Ratio(0), Ratio(1))])


class Texts(Case):
    def test_written_out(self):
        half = Ratio(1, 2)
        told = {
            "0": [], "3": [3], "-1/2": [-half], "1": [1], "-1": [-1], "z": [0, 1], "-z": [0, -1], "z^2": [0, 0, 1],
            "-1 + z": [-1, 1], "1 - z": [1, -1], "1/2*z": [0, half], "-1/2*z^3": [0, 0, 0, -half],
            "2 - 3*z + z^2 - z^3 + 1/2*z^12": [2, -3, 1, -1] + [0] * 8 + [half],
            "-z - z^2": [0, -1, -1],
        }
        for text, parts in told.items():
            self.assertEqual(poly_text(Poly(parts), "z"), text)

    def test_letters(self):
        self.assertEqual(poly_text(letter="s", poly=1 + 2 * Z * Z), "1 + 2*s^2")
        self.assertEqual([poly_text(Z, letter) for letter in "aqz"], ["a", "q", "z"])

    def test_wrong_arguments(self):
        self.each_bad(lambda value: poly_text(value, "zz"))
        self.bad(1, lambda: poly_text(1, "z"))
        self.each_bad(lambda value: poly_text(Z, value), but=["x"])
        for letter in ("zz", "Z", "1", " ", "\u00e9", "az"):
            self.bad(letter, lambda: poly_text(Z, letter))


if __name__ == "__main__":
    unittest.main()
