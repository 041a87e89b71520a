"""[2], [11], [72]: quotients."""

import random
import unittest

from allstreams.errors import AtNought, NoDivisor
from allstreams.polys import Poly
from allstreams.quotients import Quotient, first_unlike, quotient_text
from allstreams.ratios import Ratio
from tests.helpers import Case, STRANGE, random_poly, random_ratio

Z = Poly([0, 1])
ONE = Poly([1])
LOOP = Quotient(1, 2 - Z)


def random_quotient(chance, degree=3):
    bottom = random_poly(chance, degree)
    while bottom.part(0) == Ratio(0):
        bottom = bottom + chance.randint(1, 5)
    return Quotient(random_poly(chance, chance.randint(-1, degree)), bottom)


def plain_parts(top, bottom, many):
    """The first parts of top by bottom."""
    parts = []
    for number in range(many):
        part = top.part(number)
        for back in range(1, number + 1):
            part = part - bottom.part(back) * parts[number - back]
        parts.append(part * bottom.part(0).inverse())
    return parts


class Quotients(Case):
    def test_lowest_terms(self):
        quotient = Quotient(Z * Z - 1, 2 * Z - 2)
        self.assertEqual((quotient.top, quotient.bottom), (Poly([Ratio(1, 2), Ratio(1, 2)]), ONE))
        self.assertEqual((LOOP.top, LOOP.bottom), (Poly([Ratio(1, 2)]), Poly([1, Ratio(-1, 2)])))
        nought = Quotient(0, 7 - Z)
        self.assertEqual((nought.top, nought.bottom), (Poly([]), ONE))
        self.assertEqual(Quotient(bottom=Ratio(1, 2), top=3), Quotient(6, 1))
        chance = random.Random(3)
        for _ in range(100):
            quotient, more = random_quotient(chance), random_poly(chance, 2)
            self.assertEqual(quotient.bottom.part(0), Ratio(1))
            self.assertEqual(quotient.top.common(quotient.bottom), ONE)
            if more.degree() >= 0:
                self.assertEqual(Quotient(quotient.top * more, quotient.bottom * more), quotient)

    def test_a_bottom_with_part_0_nought_ahead_of_lowest_terms(self):
        self.assertEqual(Quotient(Z * Z - Z, Z), Quotient(Z - 1, 1))
        self.assertEqual(Quotient(0, Z), Quotient(0, 1))
        self.assertEqual(Quotient(Z.power(3), Z * Z - 2 * Z), Quotient(Z * Z, Z - 2))
        self.assertEqual(Quotient(3 * Z, 6 * Z), Quotient(1, 2))

    def test_errors(self):
        self.raises(AtNought, lambda: Quotient(1, Z))
        self.raises(AtNought, lambda: Quotient(Z, Z * Z))
        self.raises(AtNought, lambda: Quotient(Z + 1, Z * Z + Z))
        self.raises(NoDivisor, lambda: Quotient(1, 0))
        self.raises(NoDivisor, lambda: Quotient(0, Poly([0])))
        self.raises(NoDivisor, lambda: Quotient(Z, Ratio(0)))

    def test_wrong_arguments(self):
        self.each_bad(lambda value: Quotient(value, "y"))
        self.each_bad(lambda value: Quotient(value, 0))
        self.each_bad(lambda value: Quotient(Z, value))
        self.bad(LOOP, lambda: Quotient(LOOP, 1))
        self.bad(LOOP, lambda: Quotient(1, LOOP))

    def test_signs(self):
        chance = random.Random(4)
        for _ in range(60):
            one, other = random_quotient(chance), random_quotient(chance)
            poly, ratio, whole = random_poly(chance, 2), random_ratio(chance), chance.randint(-3, 3)
            bottom = one.bottom * other.bottom
            self.assertEqual(one + other, Quotient(one.top * other.bottom + other.top * one.bottom, bottom))
            self.assertEqual(one - other, Quotient(one.top * other.bottom - other.top * one.bottom, bottom))
            self.assertEqual(one * other, Quotient(one.top * other.top, bottom))
            self.assertEqual(-one, Quotient(-one.top, one.bottom))
            self.assertEqual(one - one, Quotient(0, 1))
            for value in (poly, ratio, whole):
                same = Quotient(value, 1)
                self.assertEqual([one + value, value + one], [one + same] * 2)
                self.assertEqual([one - value, value - one], [one - same, same - one])
                self.assertEqual([one * value, value * one], [one * same] * 2)

    def test_other_operands(self):
        for value in STRANGE:
            with self.subTest(value=value):
                self.bad(value, lambda: LOOP + value)
                self.bad(value, lambda: value + LOOP)
                self.bad(value, lambda: LOOP - value)
                self.bad(value, lambda: value - LOOP)
                self.bad(value, lambda: LOOP * value)
                self.bad(value, lambda: value * LOOP)

    def test_powers_and_inverses(self):
        nought = Quotient(0, 1)
        self.assertEqual([LOOP.power(0), nought.power(0), nought.power(2)], [Quotient(1, 1), Quotient(1, 1), nought])
        self.assertEqual(LOOP.power(exponent=3), LOOP * LOOP * LOOP)
        self.each_bad(LOOP.power)
        self.bad(-1, lambda: LOOP.power(-1))
        self.assertEqual(LOOP.inverse(), Quotient(2 - Z, 1))
        self.assertEqual(Quotient(3 + Z, 1 - Z).inverse(), Quotient(1 - Z, 3 + Z))
        self.raises(NoDivisor, lambda: nought.inverse())
        self.raises(AtNought, lambda: Quotient(Z, 1 - Z).inverse())
        self.raises(AtNought, lambda: Quotient(Z * Z, 1).inverse())

    def test_parts(self):
        chance = random.Random(5)
        for _ in range(60):
            top, bottom = random_poly(chance, chance.randint(-1, 4)), random_poly(chance, 3) * Z + Ratio(2, 3)
            parts = plain_parts(top, bottom, 8)
            quotient = Quotient(top, bottom)
            self.assertEqual(quotient.first(8), parts)
            self.assertEqual([quotient.part(number) for number in range(8)], parts)
        self.assertIs(type(LOOP.first(2)), list)
        self.assertEqual([LOOP.first(0), LOOP.first(many=1), LOOP.part(number=1)], [[], [Ratio(1, 2)], Ratio(1, 4)])
        self.assertEqual(Quotient(1, 1 - Z).part(1000), Ratio(1))
        self.assertEqual(LOOP.part(1000), Ratio(1, 2 ** 1001))
        self.assertEqual(Quotient(0, 1).first(3), [Ratio(0)] * 3)
        for call in (LOOP.part, LOOP.first):
            self.each_bad(call)
            self.bad(-1, lambda: call(-1))
            one = Ratio(1)
            self.bad(one, lambda: call(one))

    def test_parts_by_bottoms_in_powers(self):
        chance = random.Random(41)
        for _ in range(60):
            many = chance.randint(2, 5)
            small = random_poly(chance, chance.randint(0, 3)).parts
            bottom = Poly([part if place == 0 else 0 for part in (Ratio(2), *small) for place in range(many)])
            quotient = Quotient(random_poly(chance, chance.randint(0, 9)), bottom)
            told = quotient.first(30)
            self.assertEqual(told, plain_parts(quotient.top, quotient.bottom, 30))
            self.assertEqual([quotient.part(number) for number in range(30)], told)
            self.assertEqual([quotient.first(number) for number in range(6)], [told[:number] for number in range(6)])

    def test_lows(self):
        told = [quotient.low() for quotient in (LOOP, Quotient(0, 1), Quotient(Z * Z, 1 - Z), Quotient(Z, Z * Z - Z))]
        self.assertEqual(told, [0, -1, 2, 0])

    def test_first_unlike(self):
        chance = random.Random(6)
        for _ in range(100):
            one = random_quotient(chance, 2)
            other = chance.choice([random_quotient(chance, 2), one + Z.power(chance.randint(0, 6))])
            most = max(one.top.degree() + other.bottom.degree(), other.top.degree() + one.bottom.degree()) + 1
            pairs = enumerate(zip(one.first(most), other.first(most)))
            self.assertEqual(first_unlike(one, other), next((k for k, (a, b) in pairs if a != b), None))
        self.assertIsNone(first_unlike(LOOP, Quotient(2, 4 - 2 * Z)))
        self.assertEqual(first_unlike(other=Quotient(0, 1), one=LOOP), 0)
        self.each_bad(lambda value: first_unlike(value, "y"))
        self.each_bad(lambda value: first_unlike(LOOP, value))
        self.bad(Z, lambda: first_unlike(Z, LOOP))
        self.bad(1, lambda: first_unlike(LOOP, 1))

    def test_equality(self):
        self.assertTrue(Quotient(2, 2 - Z) == Quotient(4, 4 - 2 * Z))
        self.assertTrue(Quotient(1, 1 - Z) != Quotient(1, 1 + Z))
        self.assertFalse(Quotient(1, 1 - Z) == Quotient(Z, 1 - Z))
        for value in [*STRANGE, 1, Ratio(1), ONE]:
            self.assertFalse(Quotient(1, 1) == value)
            self.assertTrue(value != Quotient(1, 1))

    def test_nothing_changes(self):
        top, bottom = Z * Z - 1, 2 * Z - 2
        quotient = Quotient(top, bottom)
        for call in (lambda: quotient + 1, lambda: quotient * LOOP, lambda: quotient.first(5), quotient.inverse):
            call()
        self.assertEqual([top, bottom, quotient], [Z * Z - 1, 2 * Z - 2, Quotient(Z + 1, 2)])

    def test_texts(self):
        told = {
            "0": Quotient(0, 1), "1/2/(1 - 1/2*z)": LOOP, "1 + z": Quotient(1 + Z, 1), "z/(1 - z)": Quotient(Z, 1 - Z),
            "(1 + z)/(1 - z)": Quotient(1 + Z, 1 - Z), "-z^2/(1 + z^3)": Quotient(-Z * Z, 1 + Z.power(3)),
            "1/(1 - z + 1/4*z^2)": Quotient(1, 1 - Z + Ratio(1, 4) * Z * Z), "-1/3": Quotient(-1, 3),
        }
        for text, quotient in told.items():
            self.assertEqual(quotient_text(quotient), text)
        self.assertEqual(quotient_text(quotient=LOOP), "1/2/(1 - 1/2*z)")
        self.each_bad(quotient_text)
        self.bad(Z, lambda: quotient_text(Z))


if __name__ == "__main__":
    unittest.main()
