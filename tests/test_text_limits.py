"""[123]: the sizes with which texts, lowest diagonals, relations and ruled streams are asked for."""

import random
import unittest

from allstreams.errors import TooMany
from allstreams.lanes import dealt, woven
from allstreams.lowest import diagonal_paper, lowest_diagonal
from allstreams.matrices import identity
from allstreams.paces import items_of_turn, paces, steps_of_turn
from allstreams.polymatrices import PolyMatrix
from allstreams.polys import Poly
from allstreams.printer import text_text
from allstreams.quotientmatrices import QuotientMatrix
from allstreams.quotients import Quotient
from allstreams.ratios import Ratio
from allstreams.reader import read_texts
from allstreams.relations import has_rows, left_relations, multipliers_of
from allstreams.ruled import Ruled, first_apart, ruled_of, woven_of
from allstreams.wiring import Text
from tests.helpers import Case, random_poly, random_polys, random_ratio

S = Poly([0, 1])
ONE = Ratio(1)
LOOP = Quotient(1, 1 - S)


class Limits(Case):
    def setUp(self):
        self.chance = random.Random(1230)

    def test_lowest_diagonals_of_60_rows(self):
        entries = [Quotient(S, 1), LOOP, Quotient(1, 1 + S), Quotient(1, 1)]
        rows = [[entries[row // 15] if row == column else 0 for column in range(60)] for row in range(60)]
        told = lowest_diagonal(QuotientMatrix(rows))
        self.assertEqual(told[0], Quotient(1, 1 - S * S))
        self.assertEqual((len(told), told[14:16], told[45:]), (60, (told[0], Quotient(1, 1)), (Quotient(S, 1),) * 15))

    def test_lowest_diagonals_of_full_rows(self):
        bottom = 1 - S + Ratio(1, 2) * S * S
        rows = [[Quotient(random_poly(self.chance, 1, 3), bottom) for _ in range(6)] for _ in range(6)]
        matrix = QuotientMatrix(rows)
        left, right = diagonal_paper(matrix)
        told = lowest_diagonal(matrix)
        product = QuotientMatrix(left.rows) * matrix * QuotientMatrix(right.rows)
        self.assertEqual(product, QuotientMatrix([
            [told[row] if row == column and row < len(told) else 0 for column in range(6)] for row in range(6)
        ]))
        self.assertEqual((left.determinant().degree(), right.determinant().degree()), (0, 0))
        constant = QuotientMatrix([[random_ratio(self.chance) for _ in range(30)] for _ in range(30)])
        self.assertEqual(lowest_diagonal(constant), (Quotient(1, 1),) * 30)

    def test_relations_of_48_rows(self):
        rows = [[S if row == column else -1 if row == column + 1 else 0 for column in range(47)] for row in range(48)]
        chain = PolyMatrix(rows)
        told = left_relations(chain)
        self.assertEqual((told.height, told.width), (1, 48))
        self.assertEqual(told.rows[0], tuple(S.power(place) for place in range(48)))
        self.assertEqual(told * chain, PolyMatrix([[0] * 47]))
        self.assertEqual(multipliers_of(rows[7], chain)[7] - 1, told.rows[0][7] * multipliers_of(rows[7], chain)[0])
        self.assertTrue(has_rows(PolyMatrix(identity(48).rows), PolyMatrix(identity(48).rows)))
        tall = random_polys(self.chance, 12, 4, 2)
        self.assertEqual((left_relations(tall) * tall).rank(), 0)
        self.assertEqual(left_relations(tall).height, 8)

    def test_ruled_streams_far_away(self):
        rule = random_poly(self.chance, 22, 2, (1,)) + S.power(23)
        stream = Ruled([random_ratio(self.chance) for _ in range(23)], rule)
        self.assertEqual(stream.later(1000).item(0), stream.item(1000))
        self.assertEqual(stream.beginning(1000)[:23], list(stream.begun))
        self.assertEqual(ruled_of(stream.quotient()), stream)
        self.assertIsNone(first_apart(stream.behind(stream.beginning(100)).later(100), stream))
        ahead = Ruled([0] * 1000 + [1], S.power(1001))
        self.assertEqual((ahead.item(1000), ahead.rule.degree(), first_apart(ahead, ahead - ahead)), (ONE, 1001, 1000))

    def test_many_woven(self):
        streams = [Ruled([1, number], S * S - S - 1) for number in range(60)]
        told = woven_of(streams)
        self.assertEqual(told.beginning(1000), woven([stream.beginning(20) for stream in streams])[:1000])
        self.assertEqual(told.thinned(60, 7), streams[7])
        self.assertEqual(len(dealt(told.beginning(1000), 60)[59]), 16)
        short = [Ruled([number + 1], S - Ratio(1, number + 2)) for number in range(8)]
        self.assertEqual([woven_of(short).thinned(8, number) for number in range(8)], short)

    def test_60_boxes_and_200_wires(self):
        rows = [("deal", tuple(f"d{number}.{lane}" for lane in range(7)), "w") for number in range(28)]
        rows += [("sum", f"s{number}", ((ONE, f"d{number % 28}.{number % 7}"), (ONE, f"s{number - 1}")))
                 for number in range(1, 31)]
        rows += [("weave", "w", ("s0",) * 7), ("delay", "s0", (ONE,), "s30")]
        self.assertEqual(len(rows), 60)
        text = Text("a", [], ["s0"], rows)
        self.assertEqual(len(text.wires()), 228)
        self.assertEqual((paces(text)["w"], items_of_turn(text)), (7, 234))
        self.raises(TooMany, lambda: steps_of_turn(text), most=200)
        self.assertEqual(read_texts(text_text(text)), [text])
        self.assertEqual(text.taken()["w"], tuple(range(1, 29)))

    def test_20000_characters(self):
        rows = "".join(f"w{number} = " + " + ".join(["u"] * 70) + "\n" for number in range(59))
        head = "text a (u -> y)\n"
        text = head + rows + "y = " + " + ".join(f"w{number}" for number in range(59))
        text = text + " " * (20000 - len(text))
        told = read_texts(text)[0]
        self.assertEqual((len(told.statements), len(told.statements[7][2])), (60, 70))
        many = "".join(f"text t{number} (-> y)\ny = source [1]\n" for number in range(620))
        self.assertGreater(len(many), 19000)
        self.assertEqual(len(read_texts(many)), 620)

    def test_many_texts_that_call_each_other(self):
        rows = "".join(f"text t{number}(->y)\ny=t{number + 1}()\n" for number in range(400))
        self.assertEqual(len(read_texts(rows + "text t400(->y)\ny=source[1]")), 401)
        wide = "text a (u -> y)\n" + "".join(f"w{number} = b(u)\n" for number in range(1000)) + "text b (u -> y)\ny = u"
        self.raises(TooMany, lambda: read_texts(wide), most=60)


if __name__ == "__main__":
    unittest.main()
