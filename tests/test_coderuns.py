"""[58], [116]: codes gone through turn by turn."""

import random
import unittest

from allstreams.codes import Code
from allstreams.coderuns import held_after, run_code
from allstreams.ratios import Ratio
from tests.helpers import Case, fraction
from tests.random_codes import random_code
from tests.test_codes import loop

ONE = Ratio(1)


def by_hand(code, ins, turns):
    """Outs, cells and rings, by the letter of point 58, with Fractions."""
    cells = [fraction(Ratio(0))] * code.cells
    rings = [[fraction(item) for item in ring] for ring in code.rings]
    left = {name: [fraction(item) if isinstance(item, Ratio) else item for item in items] for name, items in ins.items()}
    outs = {name: [] for name, _ in code.outs}
    for _ in range(turns):
        for word, first, second in code.instructions:
            if word == "take":
                cells[first] = left[second][0]
                left[second] = left[second][1:]
            elif word == "put":
                cells[first] = fraction(second)
            elif word == "sum":
                cells[first] = sum((fraction(ratio) * cells[cell] for ratio, cell in second), fraction(Ratio(0)))
            elif word == "pull":
                cells[first] = rings[second][0]
                rings[second] = rings[second][1:]
            elif word == "push":
                rings[first] = rings[first] + [cells[second]]
            else:
                outs[first].append(cells[second])
    return outs, cells, rings


class Runs(Case):
    def test_loop(self):
        told = run_code(loop(), {"u": [1, 1, 1]}, 3)
        self.assertEqual(told, {"y": [Ratio(1), Ratio(-1, 2), Ratio(3, 2)]})
        self.assertEqual(held_after(loop(), {"u": [1, 1, 1]}, 3),
                         ([ONE, ONE, Ratio(3, 2)], [[Ratio(-1, 2), Ratio(3, 2)]]))
        self.assertEqual(held_after(loop(), {"u": []}, 0), ([Ratio(0)] * 3, [[Ratio(0), Ratio(-3)]]))
        self.assertEqual(run_code(loop(), {"u": [5]}, 0), {"y": []})

    def test_cells_keep_their_numbers(self):
        code = Code([("u", 1)], [("y", 1), ("z", 1)], 3, [], [
            ("give", "y", 0), ("sum", 1, ((ONE, 1), (ONE, 0), (ONE, 1))), ("take", 0, "u"), ("give", "z", 1)])
        told = run_code(code, {"u": [1, 2, 3, 4]}, 4)
        self.assertEqual([[str(item) for item in told[name]] for name in ("y", "z")], [["0", "1", "2", "3"], ["0", "1", "4", "11"]])

    def test_kinds_of_what_is_told(self):
        told = run_code(loop(), {"u": (1, Ratio(1, 2))}, 2)
        self.assertEqual([type(told), type(told["y"]), {type(item) for item in told["y"]}], [dict, list, {Ratio}])
        held = held_after(loop(), {"u": [1, 1]}, 2)
        self.assertEqual([type(held), type(held[0]), type(held[1]), type(held[1][0])], [tuple, list, list, list])
        self.assertEqual({type(item) for item in [*held[0], *held[1][0]]}, {Ratio})

    def test_more_items_than_needed(self):
        self.assertEqual(run_code(loop(), {"u": [1, 2, 3]}, 2), run_code(loop(), {"u": [1, 2]}, 2))

    def test_by_chance(self):
        chance = random.Random(401)
        for _ in range(150):
            code = random_code(chance)
            turns = chance.randint(0, 4)
            ins = {name: [chance.randint(-5, 5) for _ in range(turns * many)] for name, many in code.ins}
            outs, cells, rings = by_hand(code, ins, turns)
            told, held = run_code(code, ins, turns), held_after(code, ins, turns)
            self.assertEqual({name: [fraction(item) for item in items] for name, items in told.items()}, outs)
            self.assertEqual([fraction(item) for item in held[0]], cells)
            self.assertEqual([[fraction(item) for item in ring] for ring in held[1]], rings)
            # The code and the ins stay as they are, and equal calls tell the same.
            self.assertEqual([run_code(code, ins, turns), held_after(code, ins, turns)], [told, held])

    def test_what_is_told_is_new(self):
        code = loop()
        held = held_after(code, {"u": []}, 0)
        held[1][0].append(5)
        held[0].clear()
        self.assertEqual(held_after(code, {"u": []}, 0), ([Ratio(0)] * 3, [[Ratio(0), Ratio(-3)]]))

    def test_wrong_inputs(self):
        for call in (run_code, held_after):
            self.each_bad(lambda value: call(value, {"u": []}, 0))
            for value in (None, 5, "u", [], {}, {"u": [1], "v": [1]}, {"v": [1]}, {"u": 5}, {"u": None}, {"u": ["1"]},
                          {"u": [1, True]}, {"u": [1, 0.5]}, {"u": {1: 1}}, {1: [1]}, ["u"]):
                self.bad(value, lambda: call(loop(), value, 0))
            self.each_bad(lambda value: call(loop(), {"u": [1] * 500}, value))
            for value in (-1, 401, 10 ** 20):
                self.bad(value, lambda: call(loop(), {"u": [1] * 500}, value))
            short = {"u": [1, 2]}
            self.bad(short, lambda: call(loop(), short, 3))
            self.bad(500, lambda: call(loop(), short, 500))
            self.bad("code", lambda: call("code", "ins", "turns"))
            self.assertEqual(call(code=loop(), ins={"u": [1] * 400}, turns=400), call(loop(), {"u": [1] * 400}, 400))


if __name__ == "__main__":
    unittest.main()
