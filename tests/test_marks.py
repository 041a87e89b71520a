"""[2]: operands of other classes are refused, also of classes that are called as those of the package."""

from allstreams.marks import Mark, looks_after
from allstreams.matrices import Matrix
from allstreams.polys import Poly
from allstreams.quotients import Quotient
from allstreams.ratios import Ratio
from allstreams.ruled import Ruled
from tests.helpers import Case

NAMES = ["Ratio", "Poly", "Quotient", "Matrix", "PolyMatrix", "QuotientMatrix", "Ruled", "Mark", "int"]


def others():
    """Objects of classes of one's own, with names and attributes of the package's."""
    for name in NAMES:
        yield type(name, (), {})()
        yield type(name, (), {"mark": ("Ratio", "Poly"), "parts": (), "rows": (), "below": ("Ratio", "Poly")})()
        yield type(name, (), {"mark": type("Mark", (), {"below": ("Ratio", "Poly")})()})()
        yield type(name, (), {"__getattr__": lambda self, attribute: ("Ratio", "Poly")})()
        yield type(name, (), {})
    yield from (Poly, Quotient, Matrix, Mark)


class OtherClasses(Case):
    def test_right_operands(self):
        for one in (Ratio(1, 2), Poly([1, 2]), Poly([]), Quotient(1, Poly([1, 2]))):
            for other in others():
                with self.subTest(one=type(one).__name__, other=other):
                    self.bad(other, lambda: one + other)
                    self.bad(other, lambda: one - other)
                    self.bad(other, lambda: one * other)
        for other in others():
            self.bad(other, lambda: Matrix([[1]]) + other)
            self.bad(other, lambda: Matrix([[1]]) - other)
            self.bad(other, lambda: Matrix([[1]]) * other)
            self.bad(other, lambda: Ruled([1], Poly([-1, 1])) + other)
            self.bad(other, lambda: Ruled([1], Poly([-1, 1])) - other)
            self.bad(other, lambda: Ruled([1], Poly([-1, 1])) * other)

    def test_left_operands(self):
        for one in (Ratio(1, 2), Poly([1, 2]), Quotient(1, Poly([1, 2]))):
            for other in others():
                with self.subTest(one=type(one).__name__, other=other):
                    self.bad(other, lambda: other + one)
                    self.bad(other, lambda: other - one)
                    self.bad(other, lambda: other * one)
        for other in others():
            self.bad(other, lambda: other * Matrix([[1]]))
            self.bad(other, lambda: other * Ruled([1], Poly([-1, 1])))

    def test_classes_of_the_package_still_meet(self):
        half, poly, loop, matrix = Ratio(1, 2), Poly([0, 2]), Quotient(1, Poly([1, -1])), Matrix([[2]])
        self.assertEqual((half * poly, half + poly, half - poly), (Poly([0, 1]), Poly([half, 2]), Poly([half, -2])))
        self.assertEqual((half * loop, poly * loop), (Quotient(1, Poly([2, -2])), Quotient(poly, Poly([1, -1]))))
        self.assertEqual((half + loop, poly - loop), (loop + half, -(loop - poly)))
        self.assertEqual(half * matrix, Matrix([[1]]))
        ones = Ruled([1], Poly([-1, 1]))
        self.assertEqual((half * ones, ones * half, 2 * ones), (Ruled([half], Poly([-1, 1])), half * ones, ones + ones))

    def test_classes_that_derive_from_them(self):
        mine = type("Mine", (Poly,), {})([1, 1])
        self.assertEqual(Ratio(2) * mine, Poly([2, 2]))
        self.assertEqual(Poly([0, 1]) + mine, Poly([1, 2]))

    def test_marks(self):
        poly, loop = Poly([1]), Quotient(1, 1)
        told = [[looks_after(value, below) for below in ("Ratio", "Poly")] for value in (poly, loop, Ratio(1), 1, None)]
        self.assertEqual(told, [[True, False], [True, True], [False, False], [False, False], [False, False]])
        self.assertEqual(vars(Poly([1])), vars(poly))
        self.assertFalse(poly.mark == loop.mark or poly.mark == ("Ratio",))
