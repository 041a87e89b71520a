"""[70] to [122]: the examples of the interface, word for word; they run on from one to the next."""

import os
import unittest

from allstreams.errors import StreamError

EXAMPLES = os.path.join(os.path.dirname(__file__), "examples.txt")


def outcome(call):
    """What a line tells: a value as it is written out, or the error and its fields."""
    try:
        return repr(call())
    except StreamError as error:
        fields = ", ".join(f"{name}={value!r}" for name, value in vars(error).items())
        return f"raises {type(error).__name__}({fields})"


class Examples(unittest.TestCase):
    def test_each_line(self):
        with open(EXAMPLES) as file:
            lines = file.read().splitlines()
        names, asked = {}, 0
        for number, line in enumerate(lines):
            if not line.startswith(">>> "):
                continue
            code = line[4:]
            expected = lines[number + 1] if number + 1 < len(lines) else ">>> "
            if expected.startswith(">>> "):
                exec(code, names)
            else:
                asked += 1
                with self.subTest(code=code):
                    self.assertEqual(outcome(lambda: eval(code, names)), expected)
        self.assertEqual(asked, len([line for line in lines if not line.startswith(">>> ")]))
        self.assertGreater(asked, 0)


if __name__ == "__main__":
    unittest.main()
