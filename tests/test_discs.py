"""[12], [73]: roots and their counts."""

import random
import unittest

from allstreams.discs import beyond_disc, root_counts
from allstreams.polys import Poly
from allstreams.ratios import Ratio
from tests.helpers import Case, random_poly

Z = Poly([0, 1])

# Polys whose roots are known: how many lie within the circle, on it, beyond it.
KNOWN = [
    (Z, (1, 0, 0)), (Z - 1, (0, 1, 0)), (Z + 1, (0, 1, 0)), (Z * Z + 1, (0, 2, 0)), (Z * Z - Z + 1, (0, 2, 0)),
    (5 * Z * Z - 6 * Z + 5, (0, 2, 0)), (2 * Z - 1, (1, 0, 0)), (Z - 2, (0, 0, 1)), (Z + 2, (0, 0, 1)),
    (2 * Z + 1, (1, 0, 0)), (Z * Z + 2 * Z + 4, (0, 0, 2)), (4 * Z * Z + 2 * Z + 1, (2, 0, 0)),
    (Z * Z - 3 * Z + 1, (1, 0, 1)), (Z.power(3) - 7, (0, 0, 3)), (7 * Z.power(3) - 1, (3, 0, 0)),
    (Z.power(4) + Z.power(3) + Z * Z + Z + 1, (0, 4, 0)), (3 * Z * Z - 7 * Z + 2, (1, 0, 1)),
    (Poly([Ratio(1, 1000), -1]), (1, 0, 0)), (Poly([1000, Ratio(-999)]), (0, 0, 1)),
]


def counts_by_numbers(poly):
    """The count by roots that are approximated, or None if one is too near to the circle."""
    parts = [part.top / part.bottom for part in poly.monic().parts]
    roots = [(0.4 + 0.9j) ** number * 1.3 for number in range(poly.degree())]
    for _ in range(400):
        for number, root in enumerate(roots):
            worth = sum([part * root ** power for power, part in enumerate(parts)])
            for place, other in enumerate(roots):
                if place != number:
                    worth /= root - other
            roots[number] = root - worth
    sizes = [abs(root) for root in roots]
    if any([abs(size - 1) < 0.001 for size in sizes]):
        return None
    return len([size for size in sizes if size < 1]), 0, len([size for size in sizes if size > 1])


class Discs(Case):
    def test_products_of_known_ones(self):
        chance = random.Random(3)
        for _ in range(300):
            poly, count = Poly([chance.choice([1, -1, 3, Ratio(-2, 7)])]), (0, 0, 0)
            for _ in range(chance.randrange(8)):
                factor, more = chance.choice(KNOWN)
                poly, count = poly * factor, tuple(a + b for a, b in zip(count, more))
            self.assertEqual(root_counts(poly), count)
            self.assertIs(beyond_disc(poly), count[0] == count[1] == 0)

    def test_each_known_one_several_times(self):
        for poly, count in KNOWN:
            for times in (1, 2, 5):
                self.assertEqual(root_counts(poly.power(times)), tuple(times * many for many in count))

    def test_roots_that_are_only_near(self):
        chance, many = random.Random(5), 0
        for _ in range(60):
            poly = random_poly(chance, chance.randint(1, 6))
            count = counts_by_numbers(poly) if poly.degree() > 0 else None
            if count is not None:
                many += 1
                self.assertEqual(root_counts(poly), count)
        self.assertGreater(many, 30)

    def test_one_hair_from_the_circle(self):
        near = Ratio(10 ** 30 + 1, 10 ** 30)
        self.assertEqual(root_counts(Z - near), (0, 0, 1))
        self.assertEqual(root_counts(Z - near.inverse()), (1, 0, 0))
        self.assertEqual(root_counts((Z - near) * (Z - near.inverse())), (1, 0, 1))
        self.assertEqual(root_counts((Z * Z + near) * (Z * Z + 1)), (0, 2, 2))

    def test_constants_and_nought(self):
        self.assertEqual([root_counts(Poly([7])), beyond_disc(Poly([7])), beyond_disc(Poly([]))], [(0, 0, 0), True, False])
        nought = Poly([0])
        self.bad(nought, lambda: root_counts(nought))
        self.assertIs(type(root_counts(Z)), tuple)

    def test_by_name_and_wrong_arguments(self):
        self.assertEqual([root_counts(poly=Z), beyond_disc(poly=Z)], [(1, 0, 0), False])
        for call in (root_counts, beyond_disc):
            self.each_bad(call)
            self.bad(1, lambda: call(1))
            half = Ratio(1, 2)
            self.bad(half, lambda: call(half))

    def test_the_greatest_degree(self):
        chance = random.Random(1)
        parts = [Ratio(chance.randint(-10 ** 60, 10 ** 60)) for _ in range(24)]
        inside, on_it, beyond = root_counts(Poly(parts))
        self.assertEqual(inside + on_it + beyond, 23)
        self.assertEqual(root_counts(Poly(parts[::-1])), (beyond, on_it, inside))
        self.assertEqual(root_counts(Z.power(23) - 1), (0, 23, 0))


if __name__ == "__main__":
    unittest.main()
