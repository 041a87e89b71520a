"""[3], [22] to [25], [83]: texts, their statements, calls and faults."""

import random
import unittest

from allstreams.errors import Apart, NoGiver, TooMany, TwoGivers, Unknown, Within
from allstreams.ratios import Ratio
from allstreams.wiring import Text
from tests.helpers import STRANGE, Case

ONE = Ratio(1)
LONG = 10 ** 299
FORTY = "a" * 40
FORTY_ONE = "a" * 41


def plus(name, *wires):
    return ("sum", name, tuple((ONE, wire) for wire in wires))


def call(given, name, *taken):
    return ("call", tuple(given.split()), name, taken)


def lanes(many):
    return tuple(f"l{number}" for number in range(many))


# One box of each kind, as it stands in a statement, with the ins and outs of a text of it alone.
BOXES = [
    (("sum", "y", ((Ratio(-1, 2), "u"), (Ratio(0), "v"), (ONE, "u"))), ["u", "v"], ["y"]),
    (("delay", "y", (Ratio(0), Ratio(-3)), "u"), ["u"], ["y"]),
    (("source", "y", (Ratio(2),)), [], ["y"]),
    (("thin", "y", 60, 59, "u"), ["u"], ["y"]),
    (("thin", "y", 2, 0, "u"), ["u"], ["y"]),
    (("stretch", "y", 2, "u"), ["u"], ["y"]),
    (("hold", "y", 60, "u"), ["u"], ["y"]),
    (("deal", ("y", "z"), "u"), ["u"], ["z"]),
    (("deal", lanes(60), "u"), ["u"], ["l0"]),
    (("weave", "y", ("u", "u")), ["u"], ["y"]),
    (("weave", "y", lanes(60)), list(lanes(60)), ["y"]),
]

SHORT = [Ratio(9 * LONG, 7), Ratio(-9 * LONG - 1, 2), Ratio(1, 10 * LONG - 1)]
TOO_LONG = [Ratio(10 * LONG), Ratio(-10 * LONG), Ratio(1, 10 * LONG)]

NO_NAMES = [value for value in STRANGE if value != "x"] + ["A", "text", "weave", "0a", FORTY_ONE, "a b"]
NO_RATIOS = [value for value in STRANGE] + [0, 1, -2, "1/2", *TOO_LONG]
NO_MANY = STRANGE + [0, 1, -2, 61, 10 ** 9, ONE, Ratio(2)]
NO_LANES = [value for value in STRANGE] + [(), ("u",), lanes(61), "uv", ("u", "U"), ("u", 1), {"u": 1, "v": 2}]


def listed(value):
    """Lists in the place of all tuples."""
    return [listed(item) for item in value] if isinstance(value, tuple) else value


def with_part(statement, place, part):
    return (*statement[:place], part, *statement[place + 1:])


def wrong_statements():
    """Statements with one wrong place each."""
    yield from STRANGE
    yield from ["sum", ("sum",), (), [[]], ("text", "y", "u"), ("net", "y"), ("Sum", "y", ((ONE, "u"),)),
                (1, "y", ((ONE, "u"),)), (None, "y", "u"), (("sum",), "y", ((ONE, "u"),))]
    for statement, _, _ in BOXES:
        yield from (statement[:-1], statement + ("u",), statement[1:], (statement,), ("x", *statement[1:]))
        if not isinstance(statement[1], tuple):
            yield from (with_part(statement, 1, name) for name in NO_NAMES)
        if isinstance(statement[-1], str):
            yield from (with_part(statement, len(statement) - 1, name) for name in NO_NAMES)
    yield from (("sum", "y", terms) for terms in
                [(), [], "u", None, (ONE,), ("u",), ((ONE, "u", "u"),), ((ONE,),), (("u", ONE),), ({"u": ONE},),
                 ((ONE, "u"), (ONE, "U")), ((ONE, "u"), None), {"u": ONE}, (ONE, "u")])
    yield from (("sum", "y", ((ONE, "u"), (ratio, "u"))) for ratio in NO_RATIOS)
    yield from (("sum", "y", ((ONE, name),)) for name in NO_NAMES)
    for ratio in NO_RATIOS:
        yield from (("delay", "y", (ratio,), "u"), ("source", "y", (ONE, ratio)))
    for items in [(), [], None, ONE, 1, "1", {}, {1: ONE}]:
        yield from (("delay", "y", items, "u"), ("source", "y", items))
    for many in NO_MANY:
        yield from (("thin", "y", many, 0, "u"), ("stretch", "y", many, "u"), ("hold", "y", many, "u"))
    yield from (("thin", "y", 3, rest, "u") for rest in STRANGE + [-1, 3, 60, ONE, Ratio(0)])
    yield ("thin", "y", 0, 2, "u")
    for names in NO_LANES:
        yield from (("deal", names, "u"), ("weave", "y", names))
    yield from (("call", given, "b", ("u",)) for given in STRANGE + [(), "y", ("Y",), ("y", 1)] if given != [])
    yield from (("call", ("y",), name, ("u",)) for name in NO_NAMES)
    yield from (("call", ("y",), "b", taken) for taken in STRANGE + ["u", ("U",), ("u", None)] if taken != [])
    yield from (("call", ("y",), "b"), ("call", "y", "b", "u"), ("call", ("y",), "b", ("u",), ()))


class Statements(Case):
    def test_each_kind(self):
        for statement, ins, outs in BOXES:
            with self.subTest(statement=statement):
                text = Text("a", ins, outs, [statement])
                self.assertEqual(text.statements, (statement,))
                self.assertEqual(Text("a", tuple(ins), tuple(outs), (listed(statement),)).statements, (statement,))

    def test_ratios_of_300_digits(self):
        for ratio in SHORT:
            Text("a", ["u"], ["y"], [("sum", "y", ((ratio, "u"),))])
            Text("a", ["u"], ["y"], [("delay", "y", (ratio,), "u")])
            Text("a", [], ["y"], [("source", "y", (ratio,))])

    def test_wrong_statements(self):
        good = plus("y", "u")
        for number, statement in enumerate(wrong_statements()):
            with self.subTest(number=number, statement=statement):
                self.bad(statement, lambda: Text("a", ["u"], ["y"], [statement]))
                self.bad(statement, lambda: Text("a", ["u"], ["y"], [good, statement, None], None))

    def test_first_wrong_statement(self):
        first, other = ["sum", "y", []], ("sum", "y", ())
        self.bad(first, lambda: Text("a", ["u"], ["y"], [plus("y", "u"), first, other]))

    def test_statements_are_tuples_all_the_way(self):
        statement = ["sum", "y", [[ONE, "u"]]]
        told = [statement, ["deal", ["v", "w"], "y"], ["call", ["z"], "b", ["v"]]]
        other = Text("b", ["i"], ["o"], [["delay", "o", [Ratio(2)], "i"]])
        text = Text("a", ["u"], ["z"], told, [other])
        statement[2][0][1] = "x"
        statement[2].append(None)
        told.append(None)
        self.assertEqual(text.statements, (
            ("sum", "y", ((ONE, "u"),)), ("deal", ("v", "w"), "y"), ("delay", "z", (Ratio(2),), "v"),
        ))
        self.assertIs(type(text.statements[1][1]), tuple)


class Arguments(Case):
    def setUp(self):
        self.rows = [plus("y", "u")]

    def test_attributes(self):
        ins, outs, rows = ["u"], ["y"], self.rows
        text = Text("a", ins, outs, rows)
        for values in (ins, outs, rows):
            values.append("x")
        self.assertEqual((text.name, text.ins, text.outs, text.statements), ("a", ("u",), ("y",), (plus("y", "u"),)))
        self.assertEqual(vars(Text(name="a", ins=("u",), outs=("y",), statements=(plus("y", "u"),), others=[])), vars(text))
        for values in (text.ins, text.outs, text.statements):
            self.assertIs(type(values), tuple)

    def test_names(self):
        for name in NO_NAMES:
            with self.subTest(name=name):
                self.bad(name, lambda: Text(name, ["u"], ["y"], self.rows))
                self.bad(name, lambda: Text(name, None, None, None, None))
                self.bad(name, lambda: Text("a", ["u", name, None], ["y"], self.rows))
                self.bad(name, lambda: Text("a", ["u"], ("y", name), self.rows))
        Text(FORTY, [FORTY], ["b" * 40], [plus("b" * 40, FORTY)])

    def test_lists(self):
        for value in [value for value in STRANGE if not isinstance(value, (list, tuple))] + ["u", {"u": 1}, ONE]:
            with self.subTest(value=value):
                self.bad(value, lambda: Text("a", value, None, None))
                self.bad(value, lambda: Text("a", ["u"], value, None))
                self.bad(value, lambda: Text("a", ["u"], ["y"], value, None))
                self.bad(value, lambda: Text("a", ["u"], ["y"], self.rows, value))

    def test_names_given_twice(self):
        ins, outs = ["u", "v", "u"], ("y", "y")
        self.bad(ins, lambda: Text("a", ins, outs, self.rows))
        self.bad(outs, lambda: Text("a", ["u"], outs, [None]))
        self.bad(None, lambda: Text("a", ["u", "u", None], outs, self.rows))

    def test_no_outs(self):
        for outs in ([], ()):
            self.bad(outs, lambda: Text("a", ["u"], outs, [None], None))

    def test_no_statements(self):
        self.raises(NoGiver, lambda: Text("a", ["u"], ["y"], []), name="y")

    def test_others(self):
        other, same, twin = (Text(name, ["u"], ["y"], self.rows) for name in ("b", "a", "b"))
        for value in STRANGE + ["b", plus("y", "u")]:
            if not isinstance(value, (list, tuple)):
                self.bad(value, lambda: Text("a", ["u"], ["y"], self.rows, [other, value, same]))
        for others in ([same], (other, same), [other, twin], [other, other]):
            self.bad(others, lambda: Text("a", ["u"], ["y"], self.rows, others))
            self.bad(others, lambda: Text("a", ["u"], ["y"], [call("y", "a", "u")], others))
        others = [other]
        text = Text("a", ["u"], ["y"], [call("y", "b", "u")], others)
        self.assertEqual((text.statements, others), ((plus("y", "u"),), [other]))

    def test_order_of_arguments(self):
        self.bad("A", lambda: Text("A", ["u", "u"], [], None, None))
        outs = []
        self.bad(outs, lambda: Text("a", [], outs, None, None))
        wrong = ("sum",)
        self.bad(wrong, lambda: Text("a", [], ["y"], [wrong], None))
        self.bad(None, lambda: Text("a", [], ["y"], [call("y", "b")], None))


class Values(Case):
    def setUp(self):
        self.text = Text("a", ["u", "v"], ["z", "y"], [
            ("weave", "w", ("u", "x", "u")),
            ("deal", ("x", "y", "r"), "w"),
            ("sum", "z", ((ONE, "x"), (Ratio(0), "x"), (ONE, "r"))),
            ("delay", "q", (ONE,), "q"),
            ("sum", "s", ((ONE, "q"), (ONE, "v"), (ONE, "x"))),
        ])

    def test_wires(self):
        self.assertEqual(self.text.wires(), ("u", "v", "w", "x", "y", "r", "z", "q", "s"))
        self.assertEqual(Text("a", [], ["y"], [("source", "y", (ONE,))]).wires(), ("y",))

    def test_taken(self):
        expected = {"u": (1,), "v": (5,), "w": (2,), "x": (1, 3, 5), "y": (), "r": (3,), "z": (), "q": (4, 5), "s": ()}
        self.assertEqual(self.text.taken(), expected)
        self.text.taken().clear()
        self.assertEqual(self.text.taken(), expected)
        self.assertTrue(all(type(value) is tuple for value in self.text.taken().values()))

    def test_equality(self):
        rows = [plus("y", "u", "v")]
        one = Text("a", ["u", "v"], ["y"], rows)
        self.assertTrue(one == Text("a", ("u", "v"), ("y",), [listed(rows[0])]))
        self.assertFalse(one != Text("a", ("u", "v"), ("y",), rows))
        for other in (
            Text("b", ["u", "v"], ["y"], rows), Text("a", ["v", "u"], ["y"], rows),
            Text("a", ["u", "v"], ["y"], [plus("y", "v", "u")]), Text("a", ["u", "v"], ["y", "z"], [*rows, plus("z", "y")]),
            Text("a", ["u", "v"], ["y"], [*rows, plus("z", "y")]),
            Text("a", ["u", "v"], ["y"], [("sum", "y", ((ONE, "u"), (Ratio(2), "v")))]),
        ):
            self.assertFalse(one == other)
        both = [*rows, plus("z", "y")]
        self.assertFalse(Text("a", ["u", "v"], ["y", "z"], both) == Text("a", ["u", "v"], ["z", "y"], both))
        for value in [*STRANGE, ("a", ("u", "v"), ("y",), tuple(rows)), ONE]:
            self.assertFalse(one == value)
            self.assertFalse(value == one)
        by_call = Text("a", ["u", "v"], ["y"], [call("y", "b", "u", "v")], [Text("b", ["u", "v"], ["y"], rows)])
        self.assertTrue(one == by_call)


def given_in(statement):
    return statement[1] if isinstance(statement[1], tuple) else (statement[1],)


def renamed(value, names, first):
    """The word, the name of a text called, numbers and ratios are left as they are."""
    word, parts = value[0], list(value[1:])

    def new(name):
        return names.get(name, f"{first}.{name}")

    for place, part in enumerate(parts):
        if word == "call" and place == 1:
            continue
        if isinstance(part, str):
            parts[place] = new(part)
        elif isinstance(part, tuple) and part and isinstance(part[0], str):
            parts[place] = tuple(new(name) for name in part)
        elif word == "sum" and place == 1:
            parts[place] = tuple((ratio, new(name)) for ratio, name in part)
    return (word, *parts)


def unfolded_by_hand(statements, table):
    """[24] word for word: the first call is replaced, until there is none."""
    rows = list(statements)
    while any(row[0] == "call" for row in rows):
        place = [row[0] for row in rows].index("call")
        _, given, name, taken = rows[place]
        ins, outs, inside = table[name]
        names = {**dict(zip(ins, taken)), **dict(zip(outs, given))}
        rows[place:place + 1] = [renamed(row, names, given[0]) for row in inside]
    return rows


class Unfolding(Case):
    def test_names(self):
        inner = Text("inner", ["i", "j"], ["o", "p"], [
            ("weave", "w", ("i", "w.x", "j")), ("thin", "w.x", 3, 1, "w"), ("deal", ("o", "q"), "w"),
            ("stretch", "p", 2, "q"), ("hold", "h", 5, "i"), ("source", "s", (Ratio(7),)), ("delay", "t", (ONE,), "s"),
            ("sum", "k", ((Ratio(2), "t"), (Ratio(3), "o"))),
        ])
        text = Text("outer", ["u"], ["a"], [
            plus("b", "a", "a"), ("call", ("a", "c"), "inner", ("u", "b")), ("call", ("d", "e"), "inner", ("c", "c")),
        ], [inner])
        self.assertEqual(text.statements, (
            plus("b", "a", "a"),
            ("weave", "a.w", ("u", "a.w.x", "b")), ("thin", "a.w.x", 3, 1, "a.w"), ("deal", ("a", "a.q"), "a.w"),
            ("stretch", "c", 2, "a.q"), ("hold", "a.h", 5, "u"), ("source", "a.s", (Ratio(7),)),
            ("delay", "a.t", (ONE,), "a.s"), ("sum", "a.k", ((Ratio(2), "a.t"), (Ratio(3), "a"))),
            ("weave", "d.w", ("c", "d.w.x", "c")), ("thin", "d.w.x", 3, 1, "d.w"), ("deal", ("d", "d.q"), "d.w"),
            ("stretch", "e", 2, "d.q"), ("hold", "d.h", 5, "c"), ("source", "d.s", (Ratio(7),)),
            ("delay", "d.t", (ONE,), "d.s"), ("sum", "d.k", ((Ratio(2), "d.t"), (Ratio(3), "d"))),
        ))

    def test_calls_of_texts_that_had_calls(self):
        least = Text("least", ["i"], ["o"], [plus("o", "i", "m"), ("delay", "m", (ONE,), "o")])
        middle = Text("middle", ["i"], ["o"], [call("n", "least", "i"), call("o", "least", "n")], [least])
        text = Text("most", ["u"], ["y"], [call("y", "middle", "u")], [least, middle])
        self.assertEqual(text.wires(), ("u", "y.n", "y.n.m", "y", "y.o.m"))

    def test_a_text_without_ins(self):
        clock = Text("clock", [], ["o"], [("source", "o", (ONE, Ratio(0)))])
        text = Text("a", ["u"], ["y"], [call("c", "clock"), plus("y", "u", "c")], (clock,))
        self.assertEqual(text.statements, (("source", "c", (ONE, Ratio(0))), plus("y", "u", "c")))

    def test_names_that_meet(self):
        other = Text("b", ["i"], ["o"], [plus("m", "i"), plus("o", "m")])
        rows = [call("y", "b", "u"), plus("y.m", "u")]
        self.raises(TwoGivers, lambda: Text("a", ["u"], ["y"], rows, [other]), name="y.m")
        self.raises(TwoGivers, lambda: Text("a", ["u", "y.m"], ["y"], rows[:1], [other]), name="y.m")
        self.raises(TwoGivers, lambda: Text("a", ["u"], ["y"], [rows[0], call("y", "b", "y")], [other]), name="y.m")
        text = Text("a", ["u"], ["y"], [call("y", "b", "u"), plus("z", "y.m")], [other])
        self.assertEqual(text.wires(), ("u", "y.m", "y", "z"))

    def test_random_calls(self):
        chance = random.Random(24)
        kinds = [
            lambda new, old: ("sum", new[0], ((Ratio(2), old[0]), (ONE, old[1]))),
            lambda new, old: ("delay", new[0], (ONE, Ratio(3)), old[0]),
            lambda new, old: ("deal", (new[0], new[1]), old[0]),
            lambda new, old: ("weave", new[0], (old[0], old[1], old[0])),
            lambda new, old: ("thin", new[0], 4, 3, old[0]),
            lambda new, old: ("source", new[0], (ONE,)),
        ]
        for _ in range(200):
            table, others = {}, []
            for number in range(chance.randint(1, 4)):
                name = f"t{number}"
                ins = ["i", "j", "k"][:chance.randint(1, 3)]
                rows, known = [], list(ins)
                for box in range(chance.randint(1, 4)):
                    new = [f"w{box}", f"x{box}"]
                    old = [chance.choice(known) for _ in range(3)]
                    callee = chance.choice(others) if others and chance.random() < 0.5 else None
                    if callee:
                        wires = tuple(new[:len(callee.outs)])
                        taken = tuple(chance.choice(known) for _ in callee.ins)
                        rows.append(("call", wires, callee.name, taken))
                    else:
                        rows.append(chance.choice(kinds)(new, old))
                    known += given_in(rows[-1])
                rows.append(("sum", "o", tuple((ONE, name) for name in known)))
                outs = ["o", known[-1]] if known[-1] not in ins and chance.random() < 0.5 else ["o"]
                table[name] = (ins, outs, tuple(rows))
                others.append(Text(name, ins, outs, rows, others))
            for text in others:
                self.assertEqual(list(text.statements), unfolded_by_hand(table[text.name][2], {
                    other.name: (other.ins, other.outs, other.statements) for other in others}))


class Faults(Case):
    """[25], in its order."""

    def setUp(self):
        self.copy = Text("copy", ["i"], ["o"], [plus("o", "i")])
        self.pair = Text("pair", ["i", "j"], ["o", "p"], [plus("o", "i", "p"), plus("p", "j")])

    def text(self, rows, ins=("u",), outs=("y",)):
        return Text("a", ins, outs, rows, [self.copy, self.pair])

    def test_unknown(self):
        self.raises(Unknown, lambda: self.text([plus("y", "u"), call("z", "b", "u")]), name="b")
        self.raises(Unknown, lambda: self.text([call("z", "sum", "u"), call("z", "b", "u")]), name="sum")

    def test_within(self):
        self.raises(Within, lambda: self.text([call("y", "a", "u")]), name="a")
        # The text itself is there, so that the numbers of names are not looked at.
        self.raises(Within, lambda: self.text([call("y z", "a")]), name="a")

    def test_numbers_of_names(self):
        for row in (
            call("y z", "copy", "u"), call("y", "copy"), call("y", "copy", "u", "u"), call("y", "pair", "u", "u"),
            call("y z", "pair", "u"), call("x y z", "pair", "u", "u"), call("y z", "pair", "u", "u", "u"),
            call("y z", "pair"), listed(call("y z", "copy", "u")),
        ):
            self.bad(row, lambda: self.text([row]))
            self.bad(row, lambda: self.text([call("z", "copy", "u"), row, call("z", "b", "u")]))

    def test_calls_come_in_order(self):
        wrong, unknown, within = call("y z", "copy", "u"), call("y", "b", "u"), call("y", "a", "u")
        self.bad(wrong, lambda: self.text([wrong, unknown, within]))
        self.raises(Unknown, lambda: self.text([unknown, within, wrong]), name="b")
        self.raises(Within, lambda: self.text([within, wrong, unknown]), name="a")

    def test_calls_come_ahead_of_all_else(self):
        many = [plus("y", "v")] * 61
        self.raises(Unknown, lambda: self.text([*many, call("y", "b", "u")], ["u"], ["u"]), name="b")

    def test_60_statements(self):
        rows = [plus(f"w{number}", "u") for number in range(59)]
        self.assertEqual(len(self.text([*rows, plus("y", "u")]).statements), 60)
        self.assertEqual(len(self.text([*rows, call("y", "copy", "u")]).statements), 60)
        self.assertEqual(len(self.text([*rows[:58], call("y z", "pair", "u", "u")]).statements), 60)
        for more in ([plus("y", "u"), plus("z", "u")], [call("y z", "pair", "u", "u")]):
            self.raises(TooMany, lambda: self.text([*rows, *more]), most=60)

    def test_too_many_statements_are_counted_first(self):
        rows = [call(f"{FORTY[:-2]}{number}", "pairs", "u") for number in range(10, 41)]
        pairs = Text("pairs", ["i"], ["o"], [plus("o", "i", "long"), plus("long", "i")])
        self.raises(TooMany, lambda: Text("a", ["u"], ["u"], rows, [pairs]), most=60)
        self.raises(TooMany, lambda: Text("a", ["u"], ["u"], rows[:30], [pairs]), most=40)

    def test_names_of_40_characters(self):
        inside = Text("b", ["i"], ["o"], [plus("o", "i", "m"), plus("m", "i")])
        for length, fine in ((37, True), (38, True), (39, False), (40, False)):
            rows = [call("y" * length, "b", "u")]
            if fine:
                self.assertIn("y" * length + ".m", Text("a", ["u"], ["y" * length], rows, [inside]).wires())
            else:
                # Ahead of a wire that none gives.
                self.raises(TooMany, lambda: Text("a", ["u"], ["y"], [plus("y", "v"), *rows], [inside]), most=40)
        # A call whose first name is short makes short names.
        self.assertEqual(len(Text("a", [FORTY], ["y"], [call("y", "b", FORTY)], [inside]).wires()), 3)
        outs = Text("b", ["i"], ["o", "p"], [plus("o", "i", "m"), plus("m", "i"), plus("p", "m")])
        self.raises(TooMany, lambda: Text("a", ["u"], ["y"], [call(f"{FORTY} y", "b", "u")], [outs]), most=40)
        text = Text("a", ["u"], ["y"], [call(f"y {FORTY}", "b", "u")], [outs])
        self.assertEqual(text.wires(), ("u", "y", "y.m", FORTY))

    def test_two_givers(self):
        self.raises(TwoGivers, lambda: self.text([plus("y", "u"), plus("y", "v")]), name="y")
        self.raises(TwoGivers, lambda: self.text([plus("z", "v"), plus("u", "u"), plus("z", "u")]), name="u")
        self.raises(TwoGivers, lambda: self.text([("deal", ("x", "x"), "u"), plus("u", "u")]), name="x")
        self.raises(TwoGivers, lambda: self.text([("deal", ("x", "y"), "u"), ("deal", ("z", "y"), "u")]), name="y")
        self.raises(TwoGivers, lambda: self.text([call("y y", "pair", "u", "u")]), name="y")
        self.raises(TwoGivers, lambda: self.text([call("u", "copy", "u")]), name="u")

    def test_no_giver(self):
        self.raises(NoGiver, lambda: self.text([plus("y", "u", "w", "v")], ["u"], ["z"]), name="w")
        self.raises(NoGiver, lambda: self.text([("weave", "y", ("z", "u")), plus("z", "v")]), name="v")
        self.raises(NoGiver, lambda: self.text([plus("y", "u")], ["u"], ["u", "z", "x"]), name="z")
        for row in (("delay", "y", (ONE,), "v"), ("thin", "y", 2, 0, "v"), ("stretch", "y", 2, "v"),
                    ("hold", "y", 2, "v"), ("deal", ("y", "z"), "v"), ("weave", "y", ("u", "v")), call("y", "copy", "v")):
            self.raises(NoGiver, lambda: self.text([row]), name="v")

    def test_outs_that_are_ins(self):
        for outs in (["u"], ["y", "u"], ("u", "y")):
            self.bad(outs, lambda: self.text([plus("y", "u"), plus("w", "w")], ["u"], outs))

    def test_apart(self):
        self.raises(Apart, lambda: self.text([plus("y", "u"), plus("w", "v"), plus("v", "w")]), name="w")
        self.raises(Apart, lambda: self.text([plus("y", "u")], ["u", "v", "w"]), name="v")
        self.raises(Apart, lambda: self.text([plus("y", "v")], ["u", "v", "w"]), name="v")
        self.raises(Apart, lambda: self.text([("source", "y", (ONE,))], ["u"]), name="y")
        self.raises(Apart, lambda: self.text([("source", "y", (ONE,)), ("source", "z", (ONE,))], []), name="z")
        self.raises(Apart, lambda: self.text([("deal", ("x", "y"), "v"), plus("z", "u")], ["u", "v"]), name="v")
        rows = [plus("e", "d"), plus("d", "c"), plus("c", "b"), plus("b", "y"), ("weave", "y", ("u", "e"))]
        self.assertEqual(len(self.text(rows).wires()), 6)
        self.raises(Apart, lambda: self.text([*rows, plus("g", "h"), plus("h", "g")]), name="g")

    def test_two_faults_at_once(self):
        rows = [plus("y", "v"), plus("y", "u")]
        self.raises(TwoGivers, lambda: self.text(rows, ["u"], ["u"]), name="y")
        self.raises(NoGiver, lambda: self.text(rows[:1], ["u"], ["u"]), name="v")
        outs = ["u"]
        self.bad(outs, lambda: self.text([plus("y", "u"), plus("w", "w")], ["u"], outs))
        long = [call(FORTY, "b", "u"), plus("y", "v"), plus("y", "v")]
        inside = Text("b", ["i"], ["o"], [plus("o", "i", "m"), plus("m", "i")])
        self.raises(TooMany, lambda: Text("a", ["u"], ["u"], long, [inside]), most=40)

    def test_what_is_fine(self):
        # Wires that take themselves, ins that none but a loop takes, and outs that are taken.
        text = self.text([("sum", "y", ((Ratio(0), "y"), (ONE, "u")))])
        self.assertEqual(text.taken(), {"u": (1,), "y": (1,)})
        both = self.text([plus("z", "y"), plus("y", "z", "u")], ["u"], ["z", "y"])
        self.assertEqual(both.outs, ("z", "y"))


if __name__ == "__main__":
    unittest.main()
