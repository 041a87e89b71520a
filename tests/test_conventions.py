"""[2]: arguments by position and by name, lists for tuples, arguments that stay as they are, equal calls, over all of it."""

import copy
import importlib
import inspect
import unittest

import allstreams.errors as errors
from allstreams.codes import Code
from allstreams.desk import Desk
from allstreams.equations import read_net
from allstreams.files import read_file
from allstreams.forms import normal_form
from allstreams.ladders import Ladder
from allstreams.machines import Machine
from allstreams.matrices import Matrix
from allstreams.naming import machine_of
from allstreams.nets import Net
from allstreams.polymatrices import PolyMatrix
from allstreams.polys import Poly
from allstreams.quotientmatrices import QuotientMatrix
from allstreams.quotients import Quotient
from allstreams.ratios import Ratio
from allstreams.reader import read_texts
from allstreams.ruled import Ruled
from allstreams.running import Run
from allstreams.wiring import Text
from tests.test_errors import FIELDS
from tests.test_interface import CLASSES, FUNCTIONS

ONE, HALF = Ratio(1), Ratio(1, 2)
Z = Poly([0, 1])
ECHO = read_texts("text echo (u -> y)\ny = u + 1/2*d\nd = delay [0, -3] y\n")[0]
BACK = read_texts("text back (y -> w)\nw = 2*y\n")[0]
HELD = read_texts("text held (u -> w)\nv = thin 2 1 u\nh = hold 2 v\nw = u + h\n")[0]
MACHINE = machine_of(ECHO)
LADDER = Ladder([("add", 1, Poly([0, HALF])), ("late", 0, 1)])
SQUARE = Matrix([[2, 1], [1, 1]])
POLYS = PolyMatrix([[Z, 1], [1, Z]])
LOOP = Quotient(1, 1 - Z)
NET = read_net("net half (u, y)\n0 = y[1] - 1/2*y - u\n")[1]
LAST = read_net("net last (y, v)\nv = 2*y\nh = v\n")[1]
CODE = Code([("u", 1)], [("y", 1)], 3, [[0, -3]], [
    ("take", 0, "u"), ("pull", 1, 0), ("sum", 2, ((ONE, 0), (HALF, 1))), ("push", 0, 2), ("give", "y", 2)])
FILE = read_file("text copy (u -> y)\ny = u\nnet half (u, y)\n0 = y[1] - 1/2*y - u\n")
POWERS = Ruled([1], Poly([-2, 1]))
FILTERS = [Quotient(Poly([Ratio(3, 5), Ratio(4, 5)]), 1), Quotient(Poly([Ratio(4, 5), Ratio(-3, 5)]), 1)]
TERMS = ((ONE, "y", 1), (-HALF, "y", 0))
SUMS = [("sum", "y", ((ONE, "u"),))]

CALLS = {
    "polys": [(Z, Z * Z), (Z, "z")], "quotients": [(LOOP, LOOP * Z), (LOOP,)], "discs": [(Z - 2,), (Z - 2,)],
    "matrices": [(2,), (1, 2), (SQUARE, [0], [1, 1]), ([[SQUARE, SQUARE]],)],
    "polymatrices": [([SQUARE, SQUARE],), ([[POLYS], [POLYS]],)],
    "hermite": [(POLYS,), (PolyMatrix([[1, Z]]),), ([Z, 1], PolyMatrix([[1, Z]]))],
    "lowest": [(QuotientMatrix([[Z, 0], [0, LOOP]]),)] * 2,
    "relations": [(PolyMatrix([[Z * Z - Z], [Z - 1]]),), ([Z], PolyMatrix([[Z]])), (POLYS, POLYS)],
    "lanes": [([1, 2, 3], 2), ([[1, 2], [3]],), ([1, 2, 3], 2, 1), ([1, 2], 2), ([1, HALF], 3)],
    "ruled": [([POWERS, POWERS],), (LOOP,), (POWERS, POWERS * 2)],
    "words": [("echo",)], "reader": [("text a (u -> y)\ny = u",)], "printer": [(ECHO,)], "paces": [(HELD,)] * 3,
    "needs": [(HELD,), (HELD,), (HELD, "w", 1)], "plans": [(HELD,), (HELD, [1, 1, 2, 3, 2, 3]), (HELD, [1, 1, 2, 3, 2, 3])],
    "rooms": [(HELD,)] * 2, "turns": [(HELD, {"u": [1, 2]}, 1)], "naming": [(HELD,)],
    "shaped": [(MACHINE, "a", ["u"], ["y"])], "likeness": [(ECHO, ECHO)] * 3,
    "joining": [(ECHO, {"u": "x"}), (ECHO, BACK, {"y": "d"}), (ECHO, "u", "d")],
    "stairs": [(MACHINE, 1), (MACHINE, 1), (MACHINE,)], "undoing": [(MACHINE,), (MACHINE, 1), (MACHINE,), (MACHINE, 1)],
    "loopless": [(LADDER.as_machine(),), (LADDER.as_machine(), 2), (MACHINE,)],
    "banks": [(FILTERS, 2), (FILTERS, 2), (FILTERS, FILTERS, 2), (FILTERS, 2, 1)],
    "energy": [(LADDER.as_machine(),)] * 2, "laddered": [(LADDER.as_machine(),)],
    "least": [(MACHINE,), (MACHINE,), (MACHINE,), (MACHINE, MACHINE)], "sightless": [(MACHINE,)] * 2,
    "growth": [(MACHINE,), (MACHINE,), (MACHINE,), (MACHINE, 0, 2), (ECHO, "y", 2), (MACHINE,)],
    "nets": [(NET, ["u"]), (NET, {"u": "a", "y": "b"})],
    "equations": [(["y"], SUMS), (NET, TERMS), ("net a (u)\n0 = u",), (ECHO,)],
    "forms": [(NET,), (normal_form(NET),), (NET, NET), (NET, NET)],
    "following": [(NET, [Poly([1]), Poly([])]), (NET, [Poly([1]), Poly([])]), (LAST, {"y": POWERS, "v": POWERS * 2})],
    "driving": [(NET, ["u"])] * 3, "joins": [(NET, LAST)], "codes": [(CODE,)], "making": [(ECHO, [1, 2])],
    "passes": [(CODE,)] * 9, "coderuns": [(CODE, {"u": [1, 2]}, 2)] * 2, "codeturns": [(CODE,), (CODE, CODE), (CODE, CODE)],
    "costs": [(CODE,)], "files": [("net a (u)\n0 = u",), (FILE,), (FILE,), (FILE,)],
    "questions": [(FILE, ("follows", "half", TERMS))] * 2, "promises": [("a lives",), (("driven", "n", ("u",)),)],
}

MADE = {
    "ratios.Ratio": (1, 2), "polys.Poly": ([1, HALF],), "quotients.Quotient": (Z, 1 - Z), "matrices.Matrix": ([[1, 2]], 2),
    "polymatrices.PolyMatrix": ([[1, Z]], 2), "quotientmatrices.QuotientMatrix": ([[1, LOOP]], 2),
    "ruled.Ruled": ([1], Poly([-2, 1])), "wiring.Text": ("a", ["u"], ["y"], SUMS, []), "running.Run": (ECHO,),
    "machines.Machine": (MACHINE.a, MACHINE.b, MACHINE.c, MACHINE.d, [0, -3], [1], [1]),
    "ladders.Ladder": ([("exchange",)],), "nets.Net": (["a"], ["b"], {"a": 1, "b": 1}, PolyMatrix([[1, 2]])),
    "codes.Code": ([("u", 1)], [("y", 1)], 1, [[1]], [("take", 0, "u"), ("give", "y", 0)]), "desk.Desk": ("# nothing",),
}

PLAIN = (Poly, Quotient, Ratio, Matrix, PolyMatrix, QuotientMatrix, Ruled, Text, Machine, Ladder, Code, Net, Run, Desk)


def shown(value):
    """What there is to see of a value, all the way down."""
    if isinstance(value, (list, tuple)):
        return [type(value).__name__, *[shown(item) for item in value]]
    if isinstance(value, dict):
        return {key: shown(item) for key, item in value.items()}
    if isinstance(value, Ratio):
        return str(value)
    if hasattr(value, "__dict__"):
        return [type(value).__name__, {name: shown(item) for name, item in vars(value).items() if name != "mark"}]
    return value


def as_other_lists(value):
    """Tuples for lists, all the way down in lists and dicts."""
    if isinstance(value, list):
        return tuple(as_other_lists(item) for item in value)
    if isinstance(value, dict):
        return {key: as_other_lists(item) for key, item in value.items()}
    return value


class Conventions(unittest.TestCase):
    def each(self):
        for module, functions in FUNCTIONS.items():
            file = importlib.import_module(f"allstreams.{module}")
            self.assertEqual(len(functions), len(CALLS[module]), module)
            for function, arguments in zip(functions, CALLS[module]):
                yield getattr(file, function.split("(")[0]), arguments

    def test_positions_and_names(self):
        self.assertEqual(sorted(CALLS), sorted(FUNCTIONS))
        for call, arguments in self.each():
            with self.subTest(call=call.__name__):
                names = list(inspect.signature(call).parameters)
                before = shown(arguments)
                told = shown(call(*arguments))
                self.assertEqual(shown(call(**dict(zip(names, arguments)))), told)
                self.assertEqual(shown(call(arguments[0], **dict(zip(names[1:], arguments[1:])))), told)
                self.assertEqual(shown(call(*as_other_lists(list(arguments)))), told)
                self.assertEqual(shown(arguments), before)

    def test_classes(self):
        self.assertEqual(sorted([*MADE, "forms.Form"]), sorted(CLASSES))
        for path, arguments in MADE.items():
            module, name = path.split(".")
            make = getattr(importlib.import_module(f"allstreams.{module}"), name)
            names = list(inspect.signature(make).parameters)
            with self.subTest(name=name):
                before = shown(arguments)
                told = make(*arguments)
                self.assertIsInstance(told, PLAIN)
                self.assertEqual(shown(make(**dict(zip(names, arguments)))), shown(told))
                self.assertEqual(shown(make(arguments[0], **dict(zip(names[1:], arguments[1:])))), shown(told))
                if name != "Ladder":
                    self.assertEqual(shown(make(*as_other_lists(list(arguments)))), shown(told))
                self.assertEqual(shown(arguments), before)
                self.assertEqual("__eq__" in vars(make), make(*arguments) == told)

    def test_what_is_returned_is_new(self):
        for call, arguments in self.each():
            told = call(*arguments)
            with self.subTest(call=call.__name__):
                before = shown(told)
                for value in (told, *(told if isinstance(told, (list, tuple)) else ())):
                    if isinstance(value, list):
                        value.append("more")
                    if isinstance(value, dict):
                        value["more"] = "more"
                self.assertEqual(shown(call(*arguments)), before)

    def test_arguments_are_copied(self):
        entries = {"a": 1, "b": 1}
        net = Net(["a"], ["b"], entries, PolyMatrix([[1, 2]]))
        entries["a"] = 5
        items = [[1]]
        code = Code([("u", 1)], [("y", 1)], 1, items, [("take", 0, "u"), ("give", "y", 0)])
        items[0].append(2)
        start = [0, -3]
        machine = Machine(MACHINE.a, MACHINE.b, MACHINE.c, MACHINE.d, start, [1], [1])
        start[0] = 7
        self.assertEqual([net.paces, code.rings, machine == MACHINE], [{"a": 1, "b": 1}, ((Ratio(1),),), True])
        self.assertEqual(copy.copy(net.ends), ("a",))


class Errors(unittest.TestCase):
    def test_by_position_by_name_and_by_both(self):
        for name, fields in FIELDS.items():
            made = getattr(errors, name)
            values = [[object()], {1: []}][:len(fields)]
            for error in (made(*values), made(**dict(zip(fields, values))),
                          made(*values[:1], **dict(list(zip(fields, values))[1:]))):
                self.assertEqual(list(vars(error)), fields)
                self.assertTrue(all(getattr(error, field) is value for field, value in zip(fields, values)))
                self.assertEqual([type(error).__mro__[1], isinstance(error, ValueError)], [errors.StreamError, True])


if __name__ == "__main__":
    unittest.main()
