"""[66], [121]: promises and their texts."""

import random
import unittest

from allstreams.errors import BadPromise
from allstreams.promises import promise_text, read_promise
from allstreams.ratios import Ratio
from tests.files_oracle import is_promise
from tests.helpers import STRANGE, Case

ONE, HALF = Ratio(1), Ratio(1, 2)
FORTY = "a" * 40

TOLD = {
    "a lives": ("lives", "a"),
    "a alike b": ("alike", "a", "b"),
    "b undoes a late 3": ("undoes", "b", "a", 3),
    "a late 0": ("late", "a", 0),
    "a bounded": ("bounded", "a"),
    "a memory 9999": ("memory", "a", 9999),
    "a room 10": ("room", "a", 10),
    "a keeps energy": ("energy", "a"),
    "n follows 0 = y[1] - 1/2*y - u": ("follows", "n", ((ONE, "y", 1), (-HALF, "y", 0), (-ONE, "u", 0))),
    "n follows 0 = -2*y[9999] + 0*u": ("follows", "n", ((Ratio(-2), "y", 9999), (Ratio(0), "u", 0))),
    "n driven by": ("driven", "n", ()),
    "n driven by u": ("driven", "n", ("u",)),
    "n driven by u, v, u": ("driven", "n", ("u", "v", "u")),
    # The words are not kept from being names.
    "lives lives": ("lives", "lives"),
    "late late 3": ("late", "late", 3),
    "undoes undoes late late 3": ("undoes", "undoes", "late", 3),
    "keeps keeps energy": ("energy", "keeps"),
    "driven driven by by": ("driven", "driven", ("by",)),
    "follows follows 0 = alike": ("follows", "follows", ((ONE, "alike", 0),)),
    f"{FORTY} alike {FORTY}": ("alike", FORTY, FORTY),
}


class Promises(Case):
    def test_each_sort(self):
        for text, promise in TOLD.items():
            with self.subTest(text=text):
                self.assertEqual(read_promise(text), promise)
                self.assertEqual(promise_text(promise), text)
                for part in (read_promise(text), *promise[2:3]):
                    if isinstance(part, (list, tuple)):
                        self.assertIs(type(part), tuple)

    def test_spaces(self):
        for text, plain in (
            ("  a   lives ", "a lives"), (" b  undoes  a  late  12 ", "b undoes a late 12"), ("a keeps   energy", "a keeps energy"),
            ("n driven by u,v ,  w", "n driven by u, v, w"), ("n  driven  by   ", "n driven by"),
            ("n follows 0=y [ 1 ]-1/2 * y+u[0]", "n follows 0 = y[1] - 1/2*y + u"),
            ("n follows  0  =  -  3 * y[ 12]", "n follows 0 = -3*y[12]"), ("n follows 0 = 2/4*y", "n follows 0 = 1/2*y"),
        ):
            self.assertEqual(promise_text(read_promise(text)), plain)

    def test_strings_that_are_none(self):
        for text in (
            "", " ", "a", "lives", "a lives b", "a Lives", "a  live", "A lives", "a lives\n", "\na lives", "a\tlives", "text lives",
            "a net alike", "a alike", "a alike text", "a alike b c", "a undoes b", "a undoes b late", "a undoes late 3",
            "a undoes b 3", "a undoes b late 03", "a undoes b late x", "a late", "a late 01", "a late 00", "a late 10000", "a late -1",
            "a late 1/2", "a late 1 2", "a late1", "a late 1x", "a bounded 3", "a memory", "a memory x", "a memory 5.", "a room",
            "a room 1,", "a keeps", "a keeps energyy", "a keep energy", "a keeps energy 1", "keeps energy", "n follows", "n follows 0",
            "n follows 0 =", "n follows 1 = y", "n follows y = 0", "n follows 00 = y", "n follows0 = y", "n follows 0 = y[",
            "n follows 0 = y[01]", "n follows 0 = y[10000]", "n follows 0 = y[-1]", "n follows 0 = y + + u", "n follows 0 = 1/0*y",
            "n follows 0 = y u", "n follows 0 = 2", "n follows 0 = (y)", "n driven", "n driven bye", "n drivenby", "n driven by u v",
            "n driven by u,", "n driven by , u", "n driven by,u", "n driven by U", "n driven by text", "n driven by u v, w",
            f"{FORTY}a lives", f"a alike {FORTY}a", "a lives # why", "é lives", "a lives\x00", "n follows 0 = " + "9" * 301 + "*y",
        ):
            with self.subTest(text=text):
                self.raises(BadPromise, lambda: read_promise(text), promise=text)

    def test_one_character_too_much_or_other(self):
        chance = random.Random(441)
        right = wrong = 0
        signs = [" ", "0", "1", "x", "", ",", "[", "]", "-", "+", "=", "*", "/", "."]
        for _ in range(600):
            text = chance.choice(list(TOLD))
            place = chance.randint(0, len(text))
            text = text[:place] + chance.choice(signs) + text[place + chance.randint(0, 1):]
            with self.subTest(text=text):
                if is_promise(text):
                    right += 1
                    told = read_promise(text)
                    self.assertEqual(read_promise(promise_text(told)), told)
                else:
                    wrong += 1
                    self.raises(BadPromise, lambda: read_promise(text), promise=text)
        self.assertGreater(min(right, wrong), 60)

    def test_wrong_inputs(self):
        self.each_bad(read_promise, but=[value for value in STRANGE if isinstance(value, str)])
        self.assertEqual([read_promise(text="a lives"), promise_text(promise=("lives", "a"))], [("lives", "a"), "a lives"])
        for value in (
            None, 5, "a lives", (), [], {}, True, ("lives",), ("lives", "A"), ("lives", "a", "b"), ("dies", "a"), ("lives", 5),
            ("alike", "a"), ("alike", "a", "text"), ("alike", "a", 3), ("undoes", "b", "a"), ("undoes", "b", "a", -1),
            ("undoes", "b", "a", 10000), ("undoes", "b", "a", True), ("late", "a"), ("late", "a", "3"), ("late", "a", 10000),
            ("late", "a", Ratio(1)), ("late", "a", -1), ("late", "a", False), ("memory", 3, "a"), ("memory", "a", None),
            ("room", "a", 1, 1), ("room", "a", 0.5), ("energy", "a", 1), ("energy",), ("bounded", ["a"]), ("keeps", "a"),
            ("follows", "n"), ("follows", "n", ()), ("follows", "n", ((1, "y", 0),)), ("follows", "n", ((ONE, "y"),)),
            ("follows", "n", ((ONE, "y", 10000),)), ("follows", "n", ((ONE, "Y", 0),)), ("follows", "n", (ONE, "y", 0)),
            ("follows", "n", ((ONE, "y", True),)), ("follows", "n", "0 = y"), ("driven", "n"), ("driven", "n", "u"),
            ("driven", "n", ("u", 5)), ("driven", "n", ("text",)), ("driven", "n", None), (5, "a"), (("lives",), "a"), ({}, "a"),
        ):
            with self.subTest(value=value):
                self.bad(value, lambda: promise_text(value))

    def test_lists_for_tuples(self):
        self.assertEqual(promise_text(["driven", "n", ["u", "v"]]), "n driven by u, v")
        self.assertEqual(promise_text(["follows", "n", [[ONE, "y", 2]]]), "n follows 0 = y[2]")
        self.assertEqual(promise_text(["late", "a", 2]), "a late 2")


if __name__ == "__main__":
    unittest.main()
