"""[67], [68], [122]: desks, their deeds, and attempts."""

import random
import unittest

from allstreams.desk import Desk
from allstreams.equations import net_of_statements
from allstreams.errors import (
    BadPromise, BadValue, Broken, NoGiver, NotAFile, NothingToRedo, NothingToUndo, NotMade, StreamError, Taken, TooMany,
    Unknown, Within,
)
from allstreams.files import file_text, nets_of, read_file, texts_of
from allstreams.promises import promise_text, read_promise
from allstreams.questions import asked, holds
from allstreams.ratios import Ratio
from allstreams.reader import read_texts
from tests.helpers import STRANGE, Case

ECHO = "text echo (u -> y)\ny = u + 1/2*d\nd = delay [0] y\n"
COPY = "text copy (u -> y)\ny = u\n"
CALLER = "text caller (u -> z)\nv = echo(u)\nz = copy(v)\n"
NET = "net half (u, y)\n0 = y[1] - 1/2*y - u\n"
ALL = ECHO + COPY + CALLER + NET
STRINGS = [value for value in STRANGE if isinstance(value, str)]


class Whoops(Exception):
    """An error that the package does not know."""


def look(desk):
    """All that can be seen of a desk, also by undoing and doing again; the desk is as it was behind it."""
    seen = [(desk.lines(), desk.names(), desk.promises())]
    many = 0
    while True:
        try:
            desk.undo()
        except NothingToUndo:
            break
        many += 1
        seen.append((desk.lines(), desk.promises()))
    for _ in range(many):
        desk.redo()
    more = 0
    while True:
        try:
            desk.redo()
        except NothingToRedo:
            break
        more += 1
        seen.append((desk.lines(), desk.promises()))
    for _ in range(more):
        desk.undo()
    return many, more, seen


class DeskCase(Case):
    def stays(self, desk, error, call, **fields):
        """The call raises this error and leaves the desk as it was."""
        before = look(desk)
        self.raises(error, call, **fields)
        self.assertEqual(look(desk), before)


class Looking(DeskCase):
    def test_empty(self):
        for desk in (Desk(), Desk(""), Desk(text="# nothing\n")):
            self.assertEqual([desk.lines(), desk.names(), desk.promises()], ["", (), []])
            self.raises(NothingToUndo, desk.undo)
            self.raises(NothingToRedo, desk.redo)

    def test_what_it_holds(self):
        desk = Desk("# a file\n" + ALL)
        self.assertEqual([desk.lines(), desk.names()], [ALL, ("echo", "copy", "caller", "half")])
        self.assertEqual([type(desk.names()), type(desk.promises())], [tuple, list])
        self.assertEqual(desk.text("echo"), read_texts(ECHO)[0])
        self.assertEqual(desk.text(name="caller"), texts_of(read_file(ALL))["caller"])
        net = nets_of(read_file(ALL))["half"]
        self.assertEqual([desk.net("half").columns(), desk.net(name="half").rows], [net.columns(), net.rows])
        for name in ("gone", "half", "", "E"):
            self.stays(desk, Unknown, lambda: desk.text(name), name=name)
        for name in ("gone", "echo", ""):
            self.stays(desk, Unknown, lambda: desk.net(name), name=name)
        desk.promises().append("echo lives")
        self.assertEqual(desk.promises(), [])

    def test_wrong_files(self):
        self.raises(NotAFile, lambda: Desk("text a (u -> y)\ny = ?"), line=2, at=4)
        self.raises(NoGiver, lambda: Desk("text a (u -> y)\nz = u\n"), name="y")
        self.raises(Unknown, lambda: Desk(CALLER), name="echo")
        with self.assertRaises(BadValue) as caught:
            Desk("net a (q)\nu = v\n")
        self.assertEqual(caught.exception.value, (("sum", "u", ((Ratio(1), "v"),)),))

    def test_ask(self):
        desk = Desk(ALL)
        entries = read_file(ALL)
        for text in ("echo  lives", "echo alike copy", "echo late 0", "copy undoes copy late 0", "echo memory 0", "half driven by u",
                     "half follows 0 = u", "gone lives", "half lives", "copy keeps energy", "echo room 3", "echo bounded"):
            self.assertEqual(desk.ask(text), asked(entries, read_promise(text)))
            self.assertEqual(desk.ask(promise=text)[0], holds(entries, read_promise(text)))
        self.stays(desk, BadPromise, lambda: desk.ask("echo lives?"), promise="echo lives?")
        self.assertEqual(desk.promises(), [])

    def test_wrong_inputs(self):
        desk = Desk(ALL)
        self.each_bad(Desk, but=STRINGS)
        for value in ("\t", "#" * 20001):
            self.bad(value, lambda: Desk(value))
        for call in (desk.text, desk.net, desk.drop, desk.ask, desk.keep, desk.release, desk.put,
                     lambda value: desk.change(value, 1, "y = u"), lambda value: desk.change("gone", 1, value),
                     lambda value: desk.rename(value, "x")):
            self.each_bad(call, but=STRINGS)
        self.each_bad(lambda value: desk.change("gone", value, "y = u"))
        for value in (*STRANGE, "A", "text", "a" * 41, "1"):
            if value not in ("x",):
                self.bad(value, lambda: desk.rename("gone", value))
        for value in ("\t", "#" * 20001):
            self.bad(value, lambda: desk.put(value))
            self.bad(value, lambda: desk.change("gone", 9, value))
        for value in (*STRANGE, Ratio(1), desk, Fraction_like()):
            self.bad(value, lambda: desk.attempt(value))
        self.bad(None, lambda: desk.change(None, None, None))
        self.bad("1", lambda: desk.change("gone", "1", None))
        self.bad(5, lambda: desk.rename(5, "A"))
        self.assertEqual(look(desk)[:2], (0, 0))


class Fraction_like:
    """An object that is no function."""


class Deeds(DeskCase):
    def test_put(self):
        desk = Desk(ECHO + COPY)
        self.assertIsNone(desk.put("text copy (v -> w)\nw = 2*v\n" + NET + "# more\ntext last (u -> y)\ny = copy(u)\n"))
        self.assertEqual(desk.names(), ("echo", "copy", "half", "last"))
        self.assertEqual(str(desk.text("last").statements[0][2][0][0]), "2")
        desk.put(text="net echo (a)\n0 = a\n")
        self.assertEqual([desk.names(), desk.net("echo").ends], [("echo", "copy", "half", "last"), ("a",)])
        desk.put("")
        self.stays(desk, NotAFile, lambda: desk.put("text a (u -> y)\n?"), line=2, at=0)
        self.stays(desk, Unknown, lambda: desk.put("text a (u -> y)\ny = gone(u)\n"), name="gone")
        self.stays(desk, Within, lambda: desk.put("text copy (u -> y)\ny = last(u)\n"), name="last")
        self.assertEqual(look(desk)[:2], (3, 0))

    def test_drop(self):
        desk = Desk(ALL)
        self.stays(desk, Unknown, lambda: desk.drop("gone"), name="gone")
        self.stays(desk, Unknown, lambda: desk.drop("echo"), name="echo")
        self.assertIsNone(desk.drop("caller"))
        desk.drop(name="echo")
        desk.drop("half")
        self.assertEqual([desk.names(), desk.lines()], [("copy",), COPY])
        desk.drop("copy")
        self.assertEqual(desk.lines(), "")

    def test_change_of_each_statement(self):
        head = "text a (u -> y)\n"
        rows = ["y = u + d\n", "d = delay [0] e\n", "e = hold 2 t\n", "t = thin 2 0 y\n"]
        news = ["y = u - d\n", "d = delay [5, 6] y\nf = e + d\n", "e = stretch 2 t\n", "t = thin 2 1 y\n"]
        for number in (1, 2, 3, 4):
            desk = Desk(head + "".join(rows))
            desk.change("a", number, news[number - 1])
            self.assertEqual(desk.lines(), head + "".join([*rows[:number - 1], news[number - 1], *rows[number:]]))
            desk.undo()
            self.assertEqual(desk.lines(), head + "".join(rows))

    def test_change(self):
        desk = Desk(ECHO + NET)
        self.assertIsNone(desk.change("echo", 1, "y = u+1/2*d"))
        desk.change("echo", 3, "# behind the last one\n\nz = 2*y\nw = thin 2 0 z\n")
        self.assertEqual(desk.lines(), ECHO + "z = 2*y\nw = thin 2 0 z\n" + NET)
        desk.change(name="echo", number=4, text="")
        desk.change("echo", 3, "a, b = deal y")
        self.assertEqual(desk.text("echo").statements[2], ("deal", ("a", "b"), "y"))
        desk.change("half", 1, "y = delay 2 h\n0 = h - u[3]\nh = h")
        self.assertEqual(desk.net("half").hidden, ("h",))
        desk.change("half", 4, "# nothing")
        desk.change("half", 3, " \n ")
        self.assertEqual(desk.lines().split("\n")[-3:], ["y = delay 2 h", "0 = h - u[3]", ""])

    def test_change_errors(self):
        desk = Desk(ALL)
        for number in (0, -1, 4, 5, 10 ** 30):
            self.stays(desk, BadValue, lambda: desk.change("echo", number, "?"), value=number)
        self.stays(desk, Unknown, lambda: desk.change("gone", 99, "?"), name="gone")
        for name, text, line, at in (
            ("echo", "?", 1, 0), ("echo", "y = u\n ?", 2, 1), ("echo", "text a (u -> y)", 1, 4), ("echo", "y = delay 2 u", 1, 10),
            ("echo", "0 = y", 1, 0), ("half", "y = echo(u)", 1, 8), ("half", "y = delay [1] u", 1, 10), ("half", "0 = y[1", 1, 7),
            ("half", "net b (u)", 1, 3), ("half", "# a\n\n0 = 0", 3, 5), ("echo", "y = u\ny =", 2, 3),
        ):
            with self.subTest(name=name, text=text):
                self.stays(desk, NotAFile, lambda: desk.change(name, 1, text), line=line, at=at)
        # An entry left without any is a fault.
        self.stays(desk, NoGiver, lambda: desk.change("copy", 1, ""), name="y")
        with self.assertRaises(BadValue) as caught:
            desk.change("half", 1, "")
        self.assertEqual(caught.exception.value, ())
        self.stays(desk, NoGiver, lambda: desk.change("echo", 2, "e = delay [0] y"), name="d")
        # A fault in a text that calls this one.
        self.stays(desk, NoGiver, lambda: desk.change("echo", 1, "x = u + d"), name="y")

    def test_rename(self):
        desk = Desk(ALL + "text copies (u -> y)\na = copy(u)\nb = echo(a)\ny = copy(b)\n")
        for text in ("copy lives", "caller alike caller", "copy undoes copy late 0", "half driven by u", "copies memory 3"):
            desk.keep(text)
        self.assertIsNone(desk.rename("copy", "same"))
        desk.rename(name="half", new="loop")
        self.assertEqual(desk.names(), ("echo", "same", "caller", "loop", "copies"))
        self.assertEqual(desk.promises(), ["same lives", "caller alike caller", "same undoes same late 0", "loop driven by u",
                                           "copies memory 3"])
        self.assertEqual(desk.lines().count("same("), 3)
        self.assertEqual(desk.text("copies").name, "copies")
        self.stays(desk, Unknown, lambda: desk.rename("copy", "echo"), name="copy")
        for new in ("echo", "loop", "same"):
            self.stays(desk, Taken, lambda: desk.rename("same", new), name=new)
        # Names of wires, and the words of promises, stay.
        desk.rename("caller", "lives")
        desk.rename("same", "u")
        self.assertEqual(desk.promises()[:3], ["u lives", "lives alike lives", "u undoes u late 0"])
        self.assertIn("text u (u -> y)\ny = u\n", desk.lines())
        for _ in range(4):
            desk.undo()
        self.assertEqual(desk.lines(), ALL + "text copies (u -> y)\na = copy(u)\nb = echo(a)\ny = copy(b)\n")

    def test_promises_that_become_equal(self):
        desk = Desk(COPY)

        def action(held):
            held.keep("copy lives")
            held.keep("other memory 0")
            held.keep("other lives")
            held.keep("copy memory 0")
            held.rename("copy", "other")
            self.assertEqual(held.promises(), ["other lives", "other memory 0"])

        desk.attempt(action)
        self.assertEqual([desk.promises(), desk.names()], [["other lives", "other memory 0"], ("other",)])

    def test_keep_and_release(self):
        desk = Desk(ALL)
        self.assertIsNone(desk.keep(" echo   bounded "))
        desk.keep(text="half follows 0 = y[1]-2/4*y - u")
        self.assertEqual(desk.promises(), ["echo bounded", "half follows 0 = y[1] - 1/2*y - u"])
        # Not made twice, though a deed.
        desk.keep("echo bounded")
        self.assertEqual([len(desk.promises()), look(desk)[0]], [2, 3])
        for text in ("echo is bounded", "", "echo  lives\n"):
            self.stays(desk, BadPromise, lambda: desk.keep(text), promise=text)
            self.stays(desk, BadPromise, lambda: desk.release(text), promise=text)
        self.stays(desk, NotMade, lambda: desk.release(" echo  memory 1"), promise="echo memory 1")
        self.stays(desk, NotMade, lambda: desk.release("half follows 0=y"), promise="half follows 0 = y")
        self.assertIsNone(desk.release("half follows 0 = 1*y[1] - 1/2*y - 3/3*u"))
        desk.release(text="echo bounded")
        self.assertEqual(desk.promises(), [])

    def test_broken(self):
        desk = Desk(ALL)
        entries = read_file(ALL)
        for text in ("gone lives", "echo memory 0", "echo alike copy", "copy undoes copy late 1", "half driven by", "half follows 0 = u"):
            before = look(desk)
            with self.assertRaises(Broken) as caught:
                desk.keep(text)
            self.assertEqual([caught.exception.promise, caught.exception.paper], [text, asked(entries, read_promise(text))[1]])
            self.assertEqual(look(desk), before)
        # The first one that does not hold, in the order in which they were made.
        for text in ("echo late 0", "caller memory 1", "echo memory 1", "caller bounded", "echo alike echo"):
            desk.keep(text)
        change = "y = u + 1/2*d\nd = delay [0, 0] y\n"
        with self.assertRaises(Broken) as caught:
            desk.attempt(lambda held: (held.change("echo", 1, ""), held.change("echo", 1, change)))
        self.assertEqual(caught.exception.promise, "caller memory 1")
        self.assertEqual(caught.exception.paper, asked(read_file(ALL.replace("delay [0] y", "delay [0, 0] y")),
                                                      ("memory", "caller", 1))[1])
        self.stays(desk, Broken, lambda: desk.change("echo", 1, "y = u + d"), promise="caller bounded", paper=None)
        # Faults come ahead of promises.
        self.stays(desk, NoGiver, lambda: desk.change("echo", 1, "y = u + d + gone"), name="gone")
        self.stays(desk, Unknown, lambda: desk.drop("echo"), name="echo")

    def test_promises_of_what_is_called(self):
        desk = Desk(ALL)
        desk.keep("caller memory 1")
        with self.assertRaises(Broken):
            desk.change("copy", 1, "y = delay [5] u")
        desk.change("copy", 1, "y = 3*u")
        desk.change("half", 1, "0 = y - u")
        self.assertEqual(desk.promises(), ["caller memory 1"])

    def test_too_many_is_raised_as_it_is(self):
        desk = Desk("text a (u -> y)\ny = u\n" + NET)
        desk.keep("a lives")
        desk.keep("half alike half")
        self.stays(desk, TooMany, lambda: desk.change("a", 1, "h = hold 15 u\ny = hold 15 h"), most=200)
        # One that is not looked at again does not matter.
        desk.release("a lives")
        desk.change("a", 1, "h = hold 15 u\ny = hold 15 h")
        self.stays(desk, TooMany, lambda: desk.keep("a lives"), most=200)
        self.stays(desk, TooMany, lambda: desk.keep("a alike half"), most=48)

    def test_undo_and_redo(self):
        desk = Desk(ECHO)
        seen = [(desk.lines(), desk.promises())]
        deeds = [
            lambda: desk.put(COPY + NET), lambda: desk.keep("copy lives"), lambda: desk.keep("copy lives"),
            lambda: desk.change("echo", 1, "y = u - d"), lambda: desk.rename("copy", "same"), lambda: desk.keep("half driven by u"),
            lambda: desk.release("same lives"), lambda: desk.drop("same"), lambda: desk.attempt(lambda held: None),
            lambda: desk.attempt(lambda held: (held.put(CALLER + COPY), held.drop("half"), held.release("half driven by u"))),
        ]
        for deed in deeds:
            deed()
            seen.append((desk.lines(), desk.promises()))
        for many in (3, 10, 1, 6):
            for back in range(1, many + 1):
                self.assertIsNone(desk.undo())
                self.assertEqual((desk.lines(), desk.promises()), seen[-1 - back])
            for on in range(many - 1, -1, -1):
                self.assertIsNone(desk.redo())
                self.assertEqual((desk.lines(), desk.promises()), seen[-1 - on])
            self.raises(NothingToRedo, desk.redo)
        # A deed ends what can be done again; one that is not done does not.
        desk.undo()
        desk.undo()
        self.stays(desk, Unknown, lambda: desk.drop("gone"), name="gone")
        desk.redo()
        desk.undo()
        desk.keep("echo lives")
        self.raises(NothingToRedo, desk.redo)


class Attempts(DeskCase):
    def test_only_the_end_is_looked_at(self):
        desk = Desk(ALL)
        desk.keep("caller memory 1")

        def action(held):
            self.assertIs(held, desk)
            held.drop("echo")
            held.keep("echo lives")
            held.keep("new lives")
            held.put("text new (u -> y)\ny = gone(u)\n")
            self.raises(Unknown, lambda: held.text("copy"), name="echo")
            self.raises(Unknown, lambda: held.net("half"), name="echo")
            self.raises(Unknown, lambda: held.ask("copy lives"), name="echo")
            self.raises(Unknown, lambda: held.text("nothing"), name="nothing")
            self.raises(BadPromise, lambda: held.ask("?"), promise="?")
            held.put("text gone (u -> y)\ny = u\n")
            held.put(ECHO)
            self.assertEqual(held.text("new").wires(), ("u", "y"))
            self.assertEqual(held.ask("new lives")[0], True)
            return held.names()

        self.assertEqual(desk.attempt(action=action), ("copy", "caller", "half", "new", "gone", "echo"))
        self.assertEqual(desk.promises(), ["caller memory 1", "echo lives", "new lives"])
        self.assertEqual(look(desk)[:2], (2, 0))
        desk.undo()
        self.assertEqual([desk.lines(), desk.promises()], [ALL, ["caller memory 1"]])
        desk.redo()
        self.assertEqual(len(desk.names()), 6)

    def test_entries_left_without_statements(self):
        desk = Desk(COPY + NET)

        def action(held):
            held.change("copy", 1, "")
            held.change("half", 1, "")
            self.assertEqual(held.lines(), "text copy (u -> y)\nnet half (u, y)\n")
            self.raises(NoGiver, lambda: held.text("copy"), name="y")
            self.bad(2, lambda: held.change("copy", 2, "y = u"))
            held.change("copy", 1, "y = 2*u")
            with self.assertRaises(BadValue) as caught:
                held.text("copy")
            self.assertEqual(caught.exception.value, ())
            held.change("half", 1, "0 = u - y")

        desk.attempt(action)
        self.assertEqual(desk.lines(), "text copy (u -> y)\ny = 2*u\nnet half (u, y)\n0 = u - y\n")
        self.stays(desk, NoGiver, lambda: desk.attempt(lambda held: held.change("copy", 1, "")), name="y")

    def test_ends_that_fail(self):
        desk = Desk(ALL)
        desk.keep("echo late 0")
        desk.keep("caller memory 1")
        desk.undo()
        self.stays(desk, Unknown, lambda: desk.attempt(lambda held: held.drop("echo")), name="echo")
        self.stays(desk, Broken, lambda: desk.attempt(lambda held: (held.drop("caller"), held.drop("echo"))), promise="echo late 0",
                   paper=None)
        self.stays(desk, Broken, lambda: desk.attempt(lambda held: held.keep("gone lives")), promise="gone lives", paper=None)
        self.stays(desk, TooMany, lambda: desk.attempt(lambda held: (
            held.put("text a (u -> y)\nh = hold 15 u\ny = hold 15 h\n"), held.keep("a lives"))), most=200)

    def test_functions_that_raise(self):
        desk = Desk(ALL)
        desk.keep("echo late 0")
        desk.keep("echo memory 1")
        desk.undo()
        for error in (Whoops("x"), KeyError(1), StreamError(), KeyboardInterrupt(), ZeroDivisionError()):
            before = look(desk)

            def action(held):
                held.drop("caller")
                held.undo()
                held.redo()
                held.keep("gone lives")
                raise error

            with self.assertRaises(type(error)) as caught:
                desk.attempt(action)
            self.assertIs(caught.exception, error)
            self.assertEqual(look(desk), before)
        # An error that the function catches is none.
        def careful(held):
            try:
                held.drop("gone")
            except Unknown:
                held.drop("caller")

        desk.attempt(careful)
        self.assertEqual(desk.names(), ("echo", "copy", "half"))

    def test_nothing_is_one_deed_too(self):
        desk = Desk(ECHO)
        self.assertEqual(desk.attempt(lambda held: 7), 7)
        self.assertEqual([look(desk)[0], desk.lines()], [1, ECHO])
        desk.undo()
        self.raises(NothingToUndo, desk.undo)
        desk.redo()
        self.raises(NothingToRedo, desk.redo)

    def test_undo_and_redo_within(self):
        desk = Desk(ECHO)
        desk.put(COPY)
        desk.put(NET)
        desk.undo()

        def action(held):
            self.raises(NothingToUndo, held.undo)
            self.raises(NothingToRedo, held.redo)
            held.drop("copy")
            held.put(CALLER)
            held.undo()
            self.assertEqual(held.names(), ("echo",))
            held.undo()
            self.assertEqual(held.names(), ("echo", "copy"))
            self.raises(NothingToUndo, held.undo)
            held.redo()
            held.redo()
            self.raises(NothingToRedo, held.redo)
            held.undo()
            held.keep("echo lives")
            self.raises(NothingToRedo, held.redo)

        desk.attempt(action)
        self.assertEqual([desk.names(), desk.promises(), look(desk)[:2]], [("echo",), ["echo lives"], (2, 0)])
        desk.undo()
        self.assertEqual([desk.names(), desk.promises()], [("echo", "copy"), []])

    def test_attempts_within(self):
        desk = Desk(ECHO + CALLER.replace("echo", "copy") + COPY)

        def inner(held):
            held.drop("copy")
            held.keep("gone lives")
            return "told"

        def failing(held):
            held.drop("echo")
            raise Whoops()

        def outer(held):
            held.keep("echo lives")
            # Its end raises nothing, though there are faults then.
            self.assertEqual(held.attempt(inner), "told")
            self.assertEqual(held.names(), ("echo", "caller"))
            held.undo()
            self.assertEqual([held.names(), held.promises()], [("echo", "caller", "copy"), ["echo lives"]])
            held.redo()
            with self.assertRaises(Whoops):
                held.attempt(failing)
            self.assertEqual(held.names(), ("echo", "caller"))
            held.undo()
            held.redo()
            held.release("gone lives")
            held.drop("caller")
            held.attempt(lambda more: more.attempt(lambda most: most.put(NET)))

        desk.attempt(outer)
        self.assertEqual([desk.names(), desk.promises(), look(desk)[:2]], [("echo", "half"), ["echo lives"], (1, 0)])
        before = look(desk)
        with self.assertRaises(Whoops):
            desk.attempt(lambda held: held.attempt(failing))
        self.assertEqual(look(desk), before)

    def test_kinds_of_functions(self):
        desk = Desk(COPY)
        seen = []
        self.assertIsNone(desk.attempt(seen.append))
        self.assertEqual(seen, [desk])
        self.assertIsNone(desk.attempt(self.method))
        self.assertEqual(desk.attempt(Desk.names), ("copy",))

    def method(self, held):
        self.assertEqual(held.names(), ("copy",))


class Model:
    """A desk by its words, with the functions for files alone: all that ever was is kept."""

    def __init__(self, text):
        self.told = [(read_file(text), [])]
        self.place = 0

    def now(self):
        return self.told[self.place]

    def deed(self, entries, promises):
        texts_of(entries)
        nets_of(entries)
        for promise in promises:
            holding, paper = asked(entries, promise)
            if not holding:
                raise Broken(promise_text(promise), paper)
        self.told = [*self.told[:self.place + 1], (entries, promises)]
        self.place += 1


class ByChance(DeskCase):
    def test_against_the_words(self):
        chance = random.Random(461)
        kinds = {}
        for _ in range(25):
            desk, model = Desk(ALL), Model(ALL)
            for _ in range(25):
                word, call, deed = self.pick(chance, desk, model)
                outcomes = []
                for act in (call, deed):
                    try:
                        act()
                        outcomes.append(None)
                    except StreamError as error:
                        outcomes.append((type(error), [str(value) if not isinstance(value, (list, tuple)) else len(value)
                                                       for value in vars(error).values()]))
                self.assertEqual(outcomes[0], outcomes[1], word)
                entries, promises = model.now()
                self.assertEqual([desk.lines(), desk.promises()], [file_text(entries), [promise_text(one) for one in promises]])
                kinds[(word, outcomes[0] is None)] = kinds.get((word, outcomes[0] is None), 0) + 1
        self.assertGreater(len(kinds), 12)

    def pick(self, chance, desk, model):
        """A deed, on the desk and on the model."""
        entries, promises = model.now()
        names = [entry[1] for entry in entries] + ["gone"]
        name, other = chance.choice(names), chance.choice([*names, "new"])
        word = chance.choice(["put", "drop", "change", "rename", "keep", "keep", "release", "undo", "redo"])
        if word == "put":
            text = chance.choice([ECHO, COPY, CALLER, NET, "text new (u -> y)\ny = copy(u)\n", "text copy (u -> y)\ny = 2*u\n"])
            new = {entry[1]: entry for entry in [*entries, *read_file(text)]}
            return word, lambda: desk.put(text), lambda: model.deed(list(new.values()), promises)
        if word == "drop":
            return word, lambda: desk.drop(name), lambda: self.known(name, names) or model.deed(
                [entry for entry in entries if entry[1] != name], promises)
        if word == "change":
            line = chance.choice(["y = u", "y = u + 1/3*d", "d = delay [0] y", "d = delay [1, 1] y", "y = u + d", "0 = y - u"])
            number = chance.randint(0, 3)
            return word, lambda: desk.change(name, number, line), lambda: self.change(model, name, number, line)
        if word == "rename":
            return word, lambda: desk.rename(name, other), lambda: self.rename(model, name, other)
        if word in ("keep", "release"):
            text = chance.choice([f"{name} lives", f"{name} memory {chance.randint(0, 2)}", f"{name} alike {other}",
                                  f"{name} driven by u", f"{name} bounded", f"{name} undoes {other} late 0",
                                  *[promise_text(one) for one in promises]])
            promise = read_promise(text)
            if word == "keep":
                more = promises if promise in promises else [*promises, promise]
                return word, lambda: desk.keep(text), lambda: model.deed(entries, more)
            return word, lambda: desk.release(text), lambda: self.release(model, promise)
        if word == "undo":
            return word, desk.undo, lambda: self.move(model, -1, NothingToUndo)
        return word, desk.redo, lambda: self.move(model, 1, NothingToRedo)

    def known(self, name, names):
        if name not in names[:-1]:
            raise Unknown(name)

    def change(self, model, name, number, line):
        entries, promises = model.now()
        self.known(name, [*[entry[1] for entry in entries], "gone"])
        entry = next(entry for entry in entries if entry[1] == name)
        if not 1 <= number <= len(entry[-1]) + 1:
            raise BadValue(number)
        if entry[0] == "net" and "[" in line:
            raise NotAFile(1, line.index("["))
        if entry[0] == "text" and line[0] == "0":
            raise NotAFile(1, 0)
        head = "net x (u)\n" if entry[0] == "net" else "text x (u -> y)\n"
        rows = (*entry[-1][:number - 1], *read_file(head + line)[0][-1], *entry[-1][number:])
        model.deed([(*entry[:-1], rows) if one[1] == name else one for one in entries], promises)

    def rename(self, model, name, new):
        entries, promises = model.now()
        names = [entry[1] for entry in entries]
        self.known(name, [*names, "gone"])
        if new in names:
            raise Taken(new)
        # In lines and in promises the names of entries stand by themselves.
        told = [(entry[0], new if entry[1] == name else entry[1], *entry[2:-1], tuple(
            ("call", row[1], new, row[3]) if row[0] == "call" and row[2] == name else row for row in entry[-1]))
            for entry in entries]
        kept = []
        for promise in promises:
            many = 3 if promise[0] in ("alike", "undoes") else 2
            anew = (promise[0], *[new if one == name else one for one in promise[1:many]], *promise[many:])
            kept += [] if anew in kept else [anew]
        model.deed(told, kept)

    def release(self, model, promise):
        entries, promises = model.now()
        if promise not in promises:
            raise NotMade(promise_text(promise))
        model.deed(entries, [one for one in promises if one != promise])

    def move(self, model, way, error):
        if not 0 <= model.place + way < len(model.told):
            raise error()
        model.place += way


class Sizes(DeskCase):
    """[123]."""

    def test_30_promises_and_60_deeds(self):
        texts = "".join(f"text t{number} (u -> y)\ny = u + 1/{number + 2}*d\nd = delay [0, 0] y\n" for number in range(8))
        desk = Desk(texts + NET)
        for number in range(8):
            for word in ("lives", "bounded", "memory 2", "late 0"):
                if len(desk.promises()) < 30:
                    desk.keep(f"t{number} {word}")
        for number in range(30):
            desk.change(f"t{number % 8}", 1, f"y = u - 1/{number + 2}*d")
        self.assertEqual([len(desk.promises()), look(desk)[0]], [30, 60])
        self.stays(desk, Broken, lambda: desk.change("t3", 1, "y = u + d"), promise="t3 bounded", paper=None)
        self.assertEqual(net_of_statements(["u"], [("sum", "u", ((Ratio(1), "u"),))]).ends, ("u",))


if __name__ == "__main__":
    unittest.main()
