"""What the tests have in common."""

import unittest
from fractions import Fraction

from allstreams.errors import BadValue, StreamError
from allstreams.polys import Poly
from allstreams.polymatrices import PolyMatrix
from allstreams.ratios import Ratio

# Values that are neither integers nor of any class of the package.
STRANGE = [None, "x", "", 1.0, 1j, True, False, [], [1], (1,), {}, {1: 2}, b"a", object(), Fraction(1, 2), Ratio, {1}]


class Case(unittest.TestCase):
    def raises(self, error, call, **fields):
        """The call raises just this error, with just these objects as its fields (names and numbers may be equal)."""
        with self.assertRaises(StreamError) as caught:
            call()
        told = caught.exception
        self.assertIs(type(told), error)
        self.assertEqual(list(vars(told)), list(fields))
        for name, value in fields.items():
            if error is BadValue or not isinstance(value, (str, int)):
                self.assertIs(getattr(told, name), value)
            else:
                self.assertEqual((type(getattr(told, name)), getattr(told, name)), (type(value), value))

    def bad(self, value, call):
        self.raises(BadValue, call, value=value)

    def each_bad(self, call, values=None, but=()):
        """The call finds each of these values bad."""
        for value in STRANGE if values is None else values:
            if not any(value is other for other in but):
                with self.subTest(value=value):
                    self.bad(value, lambda: call(value))


def fraction(ratio):
    return Fraction(ratio.top, ratio.bottom)


def fractions_of(poly):
    return [fraction(part) for part in poly.parts]


def random_ratio(chance, size=9, bottoms=(1, 1, 2, 3)):
    return Ratio(chance.randint(-size, size), chance.choice(bottoms))


def random_poly(chance, degree, size=9, bottoms=(1, 1, 2, 3)):
    return Poly([random_ratio(chance, size, bottoms) for _ in range(degree + 1)])


def random_polys(chance, height, width, degree, size=5, zeros=0):
    """A PolyMatrix, about zeros of ten entries 0."""
    return PolyMatrix([
        [0 if chance.randrange(10) < zeros else random_poly(chance, chance.randint(0, degree), size)
         for _ in range(width)]
        for _ in range(height)
    ], width)


def reversible(chance, size, steps=6):
    """A reversible PolyMatrix: an identity on which some rows were added to others."""
    rows = [[Poly([1]) if row == column else Poly([]) for column in range(size)] for row in range(size)]
    for _ in range(steps if size > 1 else 0):
        one, other = chance.sample(range(size), 2)
        times = random_poly(chance, 1, 2, (1,))
        rows[one] = [left + times * right for left, right in zip(rows[one], rows[other])]
    if size:
        rows[0] = [entry * 3 for entry in rows[0]]
    return PolyMatrix(rows, size)


def minor_worth(rows):
    """The determinant of rows of whatever can be added and multiplied, by the first row."""
    if not rows:
        return 1
    total = 0
    for column, entry in enumerate(rows[0]):
        left = [row[:column] + row[column + 1:] for row in rows[1:]]
        total = total + (-1) ** column * entry * minor_worth(left)
    return total
