"""[91]: texts gone through turn by turn."""

import random
import unittest

from allstreams.errors import StandsStill, TooMany, Unpaced
from allstreams.ratios import Ratio
from allstreams.reader import read_texts
from allstreams.turns import run_turns
from tests.helpers import STRANGE, Case, fraction, random_ratio
from tests.random_texts import living_text
from tests.streams_oracle import Oracle
from tests.test_needs import LONG, ODD, one_text
from tests.test_plans import HALVES, STUCK

ECHO = one_text("y = u + 1/2*d\nd = delay [0, -3] y")
TICK = read_texts("text tick (-> y, z)\ns = source [1, 2, 3]\ny = s\nz = thin 2 1 s\n")[0]


def texts(told):
    return {name: [str(item) for item in items] for name, items in told.items()}


class Turns(Case):
    def test_turns(self):
        self.assertEqual(texts(run_turns(ECHO, {"u": [1, 1, 1]}, 3)), {"y": ["1", "-1/2", "3/2"]})
        self.assertEqual(texts(run_turns(HALVES, {"u": [1, 2, 3, 4]}, 2)), {"w": ["3", "4", "7", "8"]})
        self.assertEqual(texts(run_turns(HALVES, {"u": [1, 2, 3, 4]}, 1)), {"w": ["3", "4"]})

    def test_no_turns(self):
        self.assertEqual(run_turns(ECHO, {"u": []}, 0), {"y": []})
        self.assertEqual(run_turns(ECHO, {"u": [1]}, 0), {"y": []})
        self.assertEqual(run_turns(TICK, {}, 0), {"y": [], "z": []})

    def test_longer_lists(self):
        self.assertEqual(run_turns(ECHO, {"u": [1, 2, 3, 4]}, 1), run_turns(ECHO, {"u": (1,)}, 1))

    def test_no_ins(self):
        told = run_turns(TICK, {}, 2)
        self.assertEqual(list(told), ["y", "z"])
        self.assertEqual(texts(told), {"y": ["1", "2", "3", "1"], "z": ["2", "1"]})

    def test_400_turns(self):
        told = run_turns(ECHO, {"u": [0] * 400}, 400)["y"]
        self.assertEqual([len(told), told[399]], [400, Ratio(-3) * Ratio(1, 2).power(200)])
        self.bad(401, lambda: run_turns(ECHO, {"u": [0] * 401}, 401))

    def test_as_told_item_by_item(self):
        chance = random.Random(71)
        for _ in range(200):
            text, told = living_text(chance)
            turns = chance.randint(0, 3)
            ins = {name: [random_ratio(chance) for _ in range(turns * told[name])] for name in text.ins}
            oracle = Oracle(text, ins)
            given = {name: ins[name] + [7] * chance.randint(0, 2) for name in reversed(list(ins))}
            found = run_turns(text, given, turns)
            self.assertEqual(list(found), list(text.outs))
            for name in text.outs:
                self.assertIs(type(found[name]), list)
                self.assertEqual([fraction(item) for item in found[name]], oracle.first(name, turns * told[name]))

    def test_nothing_is_changed_and_results_are_new(self):
        items = [1, 2]
        ins = {"u": items}
        told = run_turns(ECHO, ins, 2)
        told["y"].append(1)
        told["q"] = 1
        self.assertEqual(ins, {"u": [1, 2]})
        self.assertIs(ins["u"], items)
        self.assertEqual(texts(run_turns(ECHO, ins, 2)), {"y": ["1", "1/2"]})

    def test_wrong(self):
        self.each_bad(lambda value: run_turns(value, {}, 0))
        self.each_bad(lambda value: run_turns(ECHO, value, 0))
        self.each_bad(lambda value: run_turns(ECHO, {"u": []}, value), [*STRANGE, -1, 401, 10 ** 30])
        for ins in ({"u": 1}, {"u": None}, {"u": [1, True]}, {"u": [1], "v": [1]}, {"v": [1]}, {1: [1]},
                    {"u": "1"}, {"u": {}}, {"u": [[1]]}, {"u": [1.0]}, {"u": [1, 2, None]}):
            self.bad(ins, lambda: run_turns(ECHO, ins, 1))
            self.bad(ins, lambda: run_turns(ECHO, ins, -1))
        self.bad("x", lambda: run_turns("x", {"u": 1}, -1))
        self.bad(None, lambda: run_turns(TICK, None, 0))

    def test_errors_in_their_order(self):
        short = {"u": [1]}
        self.bad(short, lambda: run_turns(ECHO, short, 2))
        self.bad(short, lambda: run_turns(HALVES, short, 1))
        self.raises(StandsStill, lambda: run_turns(STUCK, short, 2))
        self.raises(Unpaced, lambda: run_turns(ODD, {"u": []}, 2), at=2)
        self.raises(TooMany, lambda: run_turns(LONG, {"u": []}, 2), most=200)
        wrong = {"v": []}
        self.bad(wrong, lambda: run_turns(ODD, wrong, 2))
        self.bad(-1, lambda: run_turns(LONG, {"u": []}, -1))


if __name__ == "__main__":
    unittest.main()
