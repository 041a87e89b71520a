"""[85]: texts written in lines."""

import random
import unittest

from allstreams.printer import text_text
from allstreams.ratios import Ratio
from allstreams.reader import read_texts
from allstreams.wiring import Text
from tests.helpers import STRANGE, Case
from tests.random_texts import random_text

ONE = Ratio(1)


def written(statement, ins=("u", "v"), outs=("y",)):
    """The line of a statement, below a text that uses all its wires."""
    rows = [statement]
    if "v" in ins:
        rows.append(("weave", "k", ("y", "u", "v")))
    return text_text(Text("a", ins, outs, rows)).split("\n")[1]


class Printer(Case):
    def test_sums(self):
        for terms, line in (
            ([(1, "u")], "y = u"),
            ([(-1, "u")], "y = -u"),
            ([(0, "u")], "y = 0*u"),
            ([(2, "u")], "y = 2*u"),
            ([(Ratio(-2, 3), "u")], "y = -2/3*u"),
            ([(1, "u"), (1, "v")], "y = u + v"),
            ([(-1, "u"), (-1, "v")], "y = -u - v"),
            ([(Ratio(1, 2), "u"), (Ratio(-1, 2), "v"), (0, "u")], "y = 1/2*u - 1/2*v + 0*u"),
            ([(-3, "v"), (10, "u"), (-10, "v")], "y = -3*v + 10*u - 10*v"),
        ):
            self.assertEqual(written(("sum", "y", tuple((ONE * ratio, name) for ratio, name in terms))), line)

    def test_items(self):
        items = (ONE, Ratio(0), Ratio(-3), Ratio(1, 2), Ratio(-22, 7))
        self.assertEqual(written(("delay", "y", items, "u")), "y = delay [1, 0, -3, 1/2, -22/7] u")
        self.assertEqual(written(("delay", "y", (Ratio(-1),), "u")), "y = delay [-1] u")
        self.assertEqual(written(("source", "y", items), ()), "y = source [1, 0, -3, 1/2, -22/7]")

    def test_other_boxes(self):
        for statement, line in (
            (("thin", "y", 2, 0, "u"), "y = thin 2 0 u"),
            (("thin", "y", 60, 59, "v"), "y = thin 60 59 v"),
            (("stretch", "y", 10, "u"), "y = stretch 10 u"),
            (("hold", "y", 3, "u"), "y = hold 3 u"),
            (("deal", ("y", "z", "w.x"), "u"), "y, z, w.x = deal u"),
            (("weave", "y", ("u", "v", "u")), "y = weave u v u"),
        ):
            self.assertEqual(written(statement), line)

    def test_headings(self):
        rows = [("sum", "y", ((ONE, "u"),)), ("sum", "z", ((ONE, "y"),))]
        self.assertEqual(text_text(Text("a", ["u"], ["z", "y"], rows)), "text a (u -> z, y)\ny = u\nz = y\n")
        rows = [("weave", "y", ("u", "w", "v"))]
        self.assertEqual(text_text(Text("a.b", ["u", "w", "v"], ["y"], rows)), "text a.b (u, w, v -> y)\ny = weave u w v\n")
        self.assertEqual(text_text(Text("tick", [], ["y"], [("source", "y", (ONE,))])), "text tick (-> y)\ny = source [1]\n")

    def test_unfolded_statements(self):
        text = read_texts("text twice(u->z)\nv=echo(u)\nz=echo(v)\ntext echo(u->y)\ny=u+1/2*d\nd=delay[0,-3]y")[0]
        self.assertEqual(text_text(text), (
            "text twice (u -> z)\nv = u + 1/2*v.d\nv.d = delay [0, -3] v\nz = v + 1/2*z.d\nz.d = delay [0, -3] z\n"
        ))

    def test_reading_again(self):
        chance = random.Random(85)
        for _ in range(200):
            text = random_text(chance, range(1, 9))
            written_text = text_text(text)
            self.assertEqual(read_texts(written_text), [text])
            self.assertEqual(text_text(read_texts(written_text)[0]), written_text)
            self.assertNotIn("  ", written_text)

    def test_long_ratios(self):
        ratio = Ratio(-10 ** 300 + 1, 10 ** 300 - 2)
        text = Text("a", ["u"], ["y"], [("sum", "y", ((ratio, "u"), (ratio, "u"))), ("delay", "z", (ratio,), "y")])
        told = f"{10 ** 300 - 1}/{10 ** 300 - 2}"
        self.assertEqual(text_text(text), f"text a (u -> y)\ny = -{told}*u - {told}*u\nz = delay [-{told}] y\n")
        self.assertEqual(read_texts(text_text(text)), [text])

    def test_texts_that_are_too_long_to_be_read(self):
        text = Text("a", ["u"], ["y"], [("sum", "y", ((ONE, "u"),) * 6000)])
        self.assertEqual(len(text_text(text)), len("text a (u -> y)\ny = \n") + 4 * 6000 - 3)

    def test_other_values(self):
        self.each_bad(text_text)
        self.each_bad(text_text, ["text a (u -> y)\ny = u", type("Text", (), {})(), Text, ONE])


if __name__ == "__main__":
    unittest.main()
