"""[22], [82]: names, and the words that are none."""

import unittest

from allstreams.words import is_name
from tests.helpers import STRANGE, Case

NINE = ["text", "net", "delay", "source", "thin", "stretch", "hold", "deal", "weave"]
LETTERS = "abcdefghijklmnopqrstuvwxyz"


class Words(Case):
    def told(self, values, expected):
        for value in values:
            with self.subTest(value=value):
                self.assertIs(is_name(value), expected)

    def test_names(self):
        self.told(["a", "z", "y1", "a.b", "a.", "a..", "x0.9", "v.d", "sum", "call", "rule", "in", "texts", "tex"], True)
        self.told([word + sign for word in NINE for sign in "x0."], True)
        self.told([word[:-1] for word in NINE], True)
        self.told([letter for letter in LETTERS], True)

    def test_words(self):
        self.told(NINE, False)

    def test_lengths(self):
        self.told(["a" * 40, "a" * 39 + ".", "a" + "9" * 39], True)
        self.told(["", "a" * 41, "a" * 400], False)

    def test_first_sign(self):
        self.told(["0", "9a", ".", ".a", "1.5", "-a", " a"], False)

    def test_each_sign(self):
        good = LETTERS + "0123456789."
        for code in range(0, 300):
            self.told(["a" + chr(code), "a" + chr(code) + "b"], chr(code) in good)
            self.told([chr(code)], chr(code) in LETTERS)
        self.told(["a\n", "\na", "Ab", "aB", "a b", "a_b", "a-b", "\u00e9", "a\u0661", "\uff41"], False)

    def test_other_values(self):
        self.told([value for value in STRANGE if value != "x"], False)
        self.told([0, 1, -1, ["a"], ("a",), b"a", {"a": 1}, str], False)


if __name__ == "__main__":
    unittest.main()
