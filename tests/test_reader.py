"""[24] to [26], [84]: texts in lines, the longest beginning of what is none, and calls of texts in one string."""

import random
import unittest

from allstreams.errors import BadValue, NoGiver, NotAText, StreamError, TooMany, TwoGivers, Unknown, Within
from allstreams.ratios import Ratio
from allstreams.reader import read_texts
from tests.helpers import STRANGE, Case
from tests.lines_oracle import is_beginning, is_string
from tests.test_wiring import unfolded_by_hand

ONE = Ratio(1)
FORTY = "a" * 40
HEAD = "text a (u -> y)\n"
BODY = HEAD + "y = u\n"


class Lines(Case):
    def one(self, line, statement, ins="u"):
        given = statement[1] if isinstance(statement[1], tuple) else (statement[1],)
        text = read_texts(f"text a ({ins} -> {given[0]})\n{line}")[0]
        self.assertEqual(text.statements, (statement,))

    def test_sums(self):
        for line, *terms in (
            ("y = u", (1, "u")),
            ("y=-u", (-1, "u")),
            ("y = - u", (-1, "u")),
            ("y = 3*u", (3, "u")),
            ("y = -3/6*u", (Ratio(-1, 2), "u")),
            ("y=0*u+0/5*u-0*u", (0, "u"), (0, "u"), (0, "u")),
            ("  y  =  007 *  u -  1 * u+u  ", (7, "u"), (-1, "u"), (1, "u")),
            ("y = 1/2*u - 2/3 * u + 10/4* u", (Ratio(1, 2), "u"), (Ratio(-2, 3), "u"), (Ratio(5, 2), "u")),
            ("y=1/02*u-u", (Ratio(1, 2), "u"), (-1, "u")),
        ):
            told = tuple((Ratio(1) * ratio, name) for ratio, name in terms)
            with self.subTest(line=line):
                self.one(line, ("sum", "y", told))

    def test_delays_and_sources(self):
        for items, told in (("0", (0,)), (" 1 , -2/4,- 3 ", (1, Ratio(-1, 2), -3)), ("-0,00/9", (0, 0))):
            told = tuple(Ratio(1) * item for item in told)
            for line in (f"y = delay [{items}] u", f"y=delay[{items}]u", f"  y =delay  [{items}]  u  "):
                self.one(line, ("delay", "y", told, "u"))
            for line in (f"y = source [{items}]", f"y=source[{items}]", f" y = source  [{items}]  "):
                self.one(line, ("source", "y", told), "")

    def test_boxes_with_numbers(self):
        for line, statement in (
            ("y = thin 2 0 u", ("thin", "y", 2, 0, "u")),
            ("y=thin  60  59  u ", ("thin", "y", 60, 59, "u")),
            ("y = thin 11 10 u", ("thin", "y", 11, 10, "u")),
            ("y = stretch 2 u", ("stretch", "y", 2, "u")),
            ("y =stretch  60  u", ("stretch", "y", 60, "u")),
            ("y = hold 7 u", ("hold", "y", 7, "u")),
        ):
            self.one(line, statement)

    def test_deals_and_weaves(self):
        self.one("y , z=deal  u", ("deal", ("y", "z"), "u"))
        many = [f"n{number}" for number in range(60)]
        self.one(", ".join(many) + " = deal u", ("deal", tuple(many), "u"))
        self.one("y = weave u u", ("weave", "y", ("u", "u")))
        self.one("y=weave  " + "  ".join(many), ("weave", "y", tuple(many)), ",".join(many))

    def test_words_within_names(self):
        for name in ("texts", "thin2", "weave.", "hold.it", "netdelay", "sourc", "sum", "call", "rule"):
            self.one(f"{name} = u", ("sum", name, ((ONE, "u"),)))
            self.one(f"y = {name}", ("sum", "y", ((ONE, name),)), name)
            self.one(f"y = deal{name}", ("sum", "y", ((ONE, "deal" + name),)), "deal" + name)
            self.assertEqual(read_texts(f"text {name} (u -> y)\ny = u")[0].name, name)

    def test_headings(self):
        for head, ins, outs in (
            ("text a (u, v -> y)", ("u", "v"), ("y",)), ("text a(u,v->y)", ("u", "v"), ("y",)),
            ("  text   a  (  u  ,v  ->  y  )  ", ("u", "v"), ("y",)), ("text a (v,u->z,y)", ("v", "u"), ("z", "y")),
        ):
            text = read_texts(head + "\ny, z = deal u\nw = u + v")[0]
            self.assertEqual((text.name, text.ins, text.outs), ("a", ins, outs))
        for head in ("text tick (-> y)", "text tick(->y)", " text tick ( -> y ) "):
            text = read_texts(head + "\ny = source [1]")[0]
            self.assertEqual((text.name, text.ins, text.outs), ("tick", (), ("y",)))

    def test_lines_that_mean_nothing(self):
        told = read_texts(BODY + "text b (u -> y)\ny = -u\n")
        empty = ["", "   ", "#", "# text c (-> y) ~!%", "   # y = u", "#\\\"'{}"]
        chance = random.Random(26)
        for _ in range(60):
            lines = ["text a (u -> y)", "y = u", "text b (u -> y)", "y = -u"]
            for line in [chance.choice(empty) for _ in range(chance.randint(1, 6))]:
                lines.insert(chance.randint(0, len(lines)), line)
            text = "\n".join(lines) + chance.choice(["", "\n", "\n\n", "\n  ", "\n#"])
            with self.subTest(text=text):
                self.assertEqual(read_texts(text), told)

    def test_random_spaces(self):
        rows = [["text", " ", "a", "(", "u", ",", "v", "->", "y", ",", "z", ")"],
                ["y", "=", "-", "1/2", "*", "u", "-", "v", "+", "3", "*", "z"],
                ["z", "=", "delay", "[", "0", ",", "-", "3/4", "]", "y"],
                ["w", "=", "thin", " ", "4", " ", "1", " ", "x"],
                ["x", "=", "weave", " ", "y", " ", "z", " ", "y", " ", "y"],
                ["p", ",", "q", "=", "deal", " ", "x"],
                ["r", "=", "b", "(", "y", ",", "p", ")"],
                ["s", "=", "b", "(", "u", ",", "v", ")"],
                ["text", " ", "b", "(", "i", ",", "j", "->", "o", ")"],
                ["o", "=", "i", "+", "k"], ["k", "=", "hold", " ", "2", " ", "h"], ["h", "=", "thin", " ", "2", " ", "0", " ", "j"]]
        chance = random.Random(28)
        plain = "\n".join("".join(row) for row in rows)
        told = read_texts(plain)
        self.assertEqual(len(told[0].statements), 11)
        for _ in range(100):
            lines = [" " * chance.randint(0, 2) + "".join(token + " " * chance.choice([0, 0, 1, 2]) for token in row)
                     for row in rows]
            self.assertEqual(read_texts("\n".join(lines) + chance.choice(["", "\n"])), told)

    def test_several_texts(self):
        texts = read_texts("text b (u -> y)\ny = a(u)\ntext a (u -> y)\ny = c(u)\ntext c (v -> w)\nw = 2*v")
        self.assertEqual([text.name for text in texts], ["b", "a", "c"])
        self.assertEqual(texts[0].statements, (("sum", "y", ((Ratio(2), "u"),)),))
        self.assertIs(type(texts), list)


class Places(Case):
    def at(self, text, place):
        with self.subTest(text=text):
            self.raises(NotAText, lambda: read_texts(text), at=place)

    def wrong(self, text):
        """The place is marked by a "?"; there the string ends, or goes on wrongly."""
        before, _, behind = text.partition("?")
        self.at(before + behind, len(before))

    def test_what_is_not_there_yet(self):
        for text in ("", " ", "\n", " \n\n ", "#", "# text a (u -> y)\n", "t", "text", "text ", "text a", "text a (",
                     "text a (u", "text a (u,", "text a (u -", "text a (u ->", "text a (u -> y", "text a (-",
                     "text a (u -> y)", HEAD, HEAD + "#", HEAD + "\n\n", HEAD + "y", HEAD + "y ", HEAD + "y, z",
                     HEAD + "y =", HEAD + "y = -", HEAD + "y = 1", HEAD + "y = 1/", HEAD + "y = 1/0", HEAD + "y = 1*",
                     HEAD + "y = u +", HEAD + "y = delay", HEAD + "y = delay [", HEAD + "y = delay [1",
                     HEAD + "y = delay [1,", HEAD + "y = delay [-", HEAD + "y = delay [1]", HEAD + "y = source",
                     HEAD + "y = thin", HEAD + "y = thin ", HEAD + "y = thin 2", HEAD + "y = thin 2 ",
                     HEAD + "y = thin 2 1", HEAD + "y = thin 2 1 ", HEAD + "y = hold 1", HEAD + "y = weave",
                     HEAD + "y = weave u", HEAD + "y = weave u ", HEAD + "y, z", HEAD + "y, z =", HEAD + "y, z = deal",
                     HEAD + "y, z = b", HEAD + "y = b(", HEAD + "y = b(u", HEAD + "y = b(u,", HEAD + "y = deal",
                     HEAD + "y = text", HEAD + "text", BODY + "text", BODY + "text ", BODY + "text b",
                     BODY + "text b (u -> y)", BODY + "z", BODY + "z =", BODY + "z = u -"):
            self.at(text, len(text))

    def test_headings(self):
        for text in ("?y = u", "tex?s", "text?", "text?(", "text?s a (u -> y)", "text ?(", "text a ?b", "text ?A",
                     "text text?(u -> y)", "text text? ", "text hold?\n", "text ?9", "text ?.a", "?Text a", " ?()",
                     "text?\n", "text a ?u", "text a (?)", "text a (?,", "text a (u?)", "text a (u ?v",
                     "text a (u,?,", "text a (u, ?-", "text a (u -? >", "text a (u ?> y)", "text a (u ->?)",
                     "text a (u -> ?-> y)", "text a (u -> y,?)", "text a (u -> y?\n", "text a (u -> y) ?u",
                     "text a (u -> y)?# no", "text a (net?, u -> y)", "text a (u -> deal?)", "text a (u -> y)?)"):
            self.wrong(text)

    def test_names_that_are_given_again(self):
        for text in ("text a (u, u?, v -> y)", "text a (u, v, u? -> y)", "text a (u -> y, y?)", "text a (u -> y, z, y? )",
                     BODY + "text a? (u -> y)", BODY + "text a?", BODY + "text a?(", BODY + "text b (u -> y)\ny = u\ntext b?\n"):
            self.wrong(text)
        self.wrong(f"text a ({FORTY}, {FORTY}? -> y)")
        self.wrong(f"text a ({FORTY}, {FORTY}?a -> y)")
        self.wrong(f"text a (u -> {FORTY},{FORTY}?)")
        self.wrong(f"text {FORTY} (u -> y)\ny = u\ntext {FORTY}? (u -> y)")
        self.wrong(f"text a ({FORTY[:-1]}, {FORTY[:-1]}?, v -> y)")
        # The beginning goes on alike as another name.
        self.assertEqual(read_texts("text a (u, uu -> y)\ny = u + uu")[0].ins, ("u", "uu"))
        self.assertEqual(len(read_texts(BODY + "text aa (u -> y)\ny = u")), 2)
        # An in may be an out, as far as lines go.
        self.raises(NotAText, lambda: read_texts("text a (u -> u)\ny = ("), at=20)

    def test_names_of_41_characters(self):
        for text in (f"text {FORTY}?a (u -> y)", f"text a ({FORTY}?a", f"text a (u -> {FORTY}?.)", HEAD + f"{FORTY}?a = u",
                     HEAD + f"y = {FORTY}?0", HEAD + f"y = u + {FORTY}?a", HEAD + f"y, {FORTY}?a", HEAD + f"y = hold 2 {FORTY}?a",
                     HEAD + f"y = b({FORTY}?a)", HEAD + f"y = weave u {FORTY}?a"):
            self.wrong(text)
        text = read_texts(f"text {FORTY} ({FORTY} -> b{FORTY[1:]})\nb{FORTY[1:]} = {FORTY}")[0]
        self.assertEqual(text.wires(), (FORTY, "b" + FORTY[1:]))

    def test_words_as_names(self):
        for word in ("text", "net", "delay", "source", "thin", "stretch", "hold", "deal", "weave"):
            for line in (f"y = u + {word}?", f"y = u - {word}? ", f"y = 2*{word}?+", f"y = -{word}?", f"y, {word}?=",
                         f"y = delay [1] {word}?", f"y = thin 2 1 {word}?\n", f"y = hold 2 {word}? u",
                         f"y = weave u {word}? u", f"y = weave {word}? u", f"y = b({word}?)", f"y, z = deal {word}?"):
                self.wrong(HEAD + line)
            self.wrong(HEAD + f"{word}? = u")
            self.wrong(HEAD + f"{word}?, y = b(u)")
            if word != "deal":
                self.wrong(HEAD + f"y, z = {word}? u")
        self.wrong(HEAD + "y = text? u")
        self.wrong(HEAD + "y = net?\n")
        self.wrong(HEAD + "text? b (u -> y)")
        self.wrong(HEAD + "texts?")
        self.wrong(BODY + "text ?= u")
        self.wrong(BODY + "text?= u")
        self.wrong(BODY + "text?, y = b(u)")
        self.assertEqual(read_texts(BODY + "texts = u")[0].wires(), ("u", "y", "texts"))

    def test_sums(self):
        for line in ("y = ?+ u", "y = ?*u", "y = -?-u", "y = u ?v", "y = u + ?- v", "y = u?*v",
                     "y = 2?u", "y = 2 ?u", "y = 1 ?2*u", "y = 1?.5*u", "y = 1/?/2*u", "y = 1/? 2",
                     "y = 1 ?/2*u", "y = 1/2?/3*u", "y = 1/0?*u", "y = 1/00? *u", "y = 2*?3*u", "y = 2*?-u", "y = ?(u)",
                     "y = u +?\n", "y = u?=", "y = u ?# no", "y ?+ z = u", "y ?z = u", "y?\n", "?= u",
                     "y = 2*b?(u)", "y = -b?(u)", "y = u + b?(u)", "y = b(u) ?+ v", "y = ?.", "y = 3?"):
            self.wrong(HEAD + line)
        self.wrong(HEAD + "y = u\ny = v?;")
        self.wrong(HEAD + "y = u\n\n?1")

    def test_items(self):
        for word, tail in (("delay", " u"), ("source", "")):
            for line in (f"y = {word}?\n", f"y = {word} ?(1){tail}", f"y = {word} [?]{tail}", f"y = {word} [?u]{tail}",
                         f"y = {word} [1,?]{tail}", f"y = {word} [1 ?2]{tail}", f"y = {word} [-?-1]{tail}",
                         f"y = {word} [?+1]{tail}", f"y = {word} [1/0?]{tail}", f"y = {word} [1/? 2]",
                         f"y = {word} [1?;", f"y = {word}s?[1]", f"y = {word} ?u", f"y = {word} [?.5]"):
                self.wrong(HEAD + line)
        self.wrong(HEAD + "y = delay [1]?\n")
        self.wrong(HEAD + "y = delay [1] ?1")
        self.wrong(HEAD + "y = delay [1] u?, v")
        self.wrong(HEAD + "y = delay [1] u ?v")
        self.wrong(HEAD + "y = source [1] ?u")
        self.wrong(HEAD + "y = source [1]?]")

    def test_numbers_of_300_digits(self):
        nines, noughts = "9" * 300, "0" * 300
        for number in (nines, nines + "/" + nines, noughts, noughts + "/" + noughts[:-1] + "7", "0" * 299 + "1", "0/" + nines):
            top, _, bottom = number.partition("/")
            told = Ratio(int(top), int(bottom or 1))
            self.assertEqual(read_texts(HEAD + f"y = {number}*u")[0].statements, (("sum", "y", ((told, "u"),)),))
            self.assertEqual(read_texts(HEAD + f"y = delay [-{number}] u")[0].statements[0][2], (-told,))
        for number in (nines + "?9", noughts + "?0", nines + "/" + nines + "?1", nines + "/" + noughts[:-1] + "?0",
                       "1/" + noughts[:-1] + "?01", "1/" + noughts[:-1] + "?", "1/" + noughts[:-1] + "1?1",
                       "1/" + noughts[:-1] + "?*", "1/0?*", nines + "?."):
            self.wrong(HEAD + f"y = {number}")
            self.wrong(HEAD + f"y = u - {number}")
            self.wrong(HEAD + f"y = source [{number}")

    def test_numbers_of_thins(self):
        for line in ("thin2 ?2 0 u", "thin ?0 0 u", "thin ?02 0 u", "thin 1? 0 u", "thin 6?1 0 u", "thin 60?0 0 u",
                     "thin 7?0 0 u", "thin 10?0 0 u", "thin 2?u", "thin 2 ?u", "thin ?-2 0 u", "thin 2 ?/1",
                     "thin 2?/1 0 u", "thin 2 ?2 u", "thin 2 0?0 u", "thin 2 0?1 u", "thin 2 1?0 u", "thin 11 10 u ?x",
                     "thin 11 1?1 u", "thin 60 6?0 u", "thin 60 ?-1 u", "thin 9 ?9 u", "thin 2 1?u", "thin 2 1 ?1",
                     "thin ?u", "thin 2 1 ?\n", "thin 2?,0", "thin 3 0 u?, v"):
            self.wrong(HEAD + "y = " + line)
        for word in ("stretch", "hold"):
            for line in ("2 ?2 u", " ?0 u", " ?02 u", " 1? u", " 6?1 u", " 2?u", " 2 ?2 u", " ?u", " 60?1 u", " 2 u ?u", " 2?\n",
                         " ?-2 u", " 1?\n", " 10?0 u"):
                self.wrong(HEAD + f"y = {word}{line}")

    def test_deals_weaves_and_calls(self):
        names = ", ".join(f"n{number}" for number in range(61))
        more = " ".join(f"n{number}" for number in range(60))
        for line in ("y = deal? u", "y = deal?\n", "y = deal?(u)", "y, z = deal?(u)", "y, z = deal?\n", "y, z = deal ?2 u",
                     "y, z = deal u ?v", "y, z = deal u?, v", names + " = deal? u", names + " = deal?(u)", names + " = b ?u",
                     "y, z = ?-u", "y, z = ?1*u", "y, z = u?\n", "y, z = u ?+ v", "y, z = thin? 2 0 u", "y,?,", "y, ?= u",
                     "y = weave?\n", "y = weave?,", "y = weave u?\n", "y = weave u ?\n", "y = weave u?, v", "y = weave ?1 u",
                     "y = weave u v?, w", "y = weave u v ?1", "y = weave u ?+ v", f"y = weave {more} ?u", f"y = weave {more}?,",
                     "y = b(?,u)", "y = b(u,?)", "y = b(u ?v)", "y = b(?1)", "y = b(u?\n", "y = b() ?u", "y = b(u)?)",
                     "y = b ?[u]", "y = b(?-u)", "y = weave?(u)"):
            self.wrong(HEAD + line)
        self.raises(Unknown, lambda: read_texts(HEAD + names + " = b(u)"), name="b")

    def test_what_cannot_stand_ahead(self):
        # Whatever the faults of [25] are: the lines come first.
        self.wrong(HEAD + "y = v\ny = b(u)\n?)")
        self.wrong("text a (u -> u)\ny = a(u)\ntext b (u -> y)\ny = 1?\n")

    def test_random_changes(self):
        chance = random.Random(29)
        lines = ["y = u", "y=u - 1/2*v+0*w", "z = delay [1/2, -3] u", "y = source [ 1 , -2/3]", "y = thin 16 1 u",
                 "y = stretch 16 u", "y = hold 60 u", "y, z = deal u", "y = weave u v w", "y, z = b(u, v)", "y = b()",
                 "# remark", "", "  ", "text b (-> y)", "text c (u,v -> y, z)"]
        signs = ["text", "thin", "deal", "net", " ", "\n", "->", *"0129uy.,=+-*/()[]>#"]
        right = wrong = 0
        for _ in range(250):
            text = "\n".join(["text a (u -> y)", "y = u", *[chance.choice(lines) for _ in range(chance.randint(0, 3))]])
            for _ in range(chance.choice([0, 1, 1, 2])):
                place = chance.randint(0, len(text))
                sign = chance.choice([*signs, "", ""])
                text = text[:place] + sign + text[place + chance.randint(0, 2):]
            text = text[:chance.choice([len(text), len(text), chance.randint(0, len(text))])]
            with self.subTest(text=text):
                place = place_of(text)
                self.assertEqual(place is None, is_string(text))
                if place is None:
                    right += 1
                else:
                    wrong += 1
                    self.assertTrue(is_beginning(text[:place]))
                    self.assertFalse(place < len(text) and is_beginning(text[:place + 1]))
        self.assertGreater(min(right, wrong), 30)

    def test_each_cut(self):
        text = "# r\n" + BODY + "\n v = thin 12 10 u\ntext b (u -> y)\ny, z = a (u, v)\nw = delay [ -1/20 ] y"
        for end in range(len(text)):
            with self.subTest(text=text[:end]):
                self.assertEqual(place_of(text[:end]), None if is_string(text[:end]) else end)


def twice(number):
    """Two calls of the next text, with names that do not meet."""
    return f"x{number} = d{number + 1}(u)\ny = d{number + 1}(x{number})\n"


def place_of(text):
    """Where the text is wrong, None if it is a string of texts, with whatever faults."""
    try:
        read_texts(text)
    except NotAText as error:
        return error.at
    except StreamError:
        pass
    return None


class Arguments(Case):
    def test_other_values(self):
        self.each_bad(read_texts, but=[value for value in STRANGE if isinstance(value, str)])
        self.each_bad(read_texts, [[BODY], BODY.encode(), (BODY,), {BODY: 1}])

    def test_other_signs(self):
        for sign in ("\t", "\r", "\0", "\x7f", "\x1f", "\x80", "\u00e9", "\u2028", "\x0b"):
            for text in (sign, BODY + sign, "# " + sign, "?" + sign):
                self.bad(text, lambda: read_texts(text))

    def test_lengths(self):
        text = BODY + "#" * (20000 - len(BODY))
        self.assertEqual(read_texts(text), read_texts(BODY))
        for more in (text + "#", text + "\n", "?" * 20001):
            self.bad(more, lambda: read_texts(more))
        self.raises(NotAText, lambda: read_texts("?" * 20000), at=0)
        self.raises(NotAText, lambda: read_texts("#" * 20000), at=20000)


class Faults(Case):
    def test_text_by_text(self):
        one, other = "text a (u -> y)\ny = v\n", "text b (u -> y)\ny = u\ny = c(u)\n"
        self.raises(NoGiver, lambda: read_texts(one + other), name="v")
        self.raises(Unknown, lambda: read_texts(other + one), name="c")
        self.raises(Unknown, lambda: read_texts(BODY + other), name="c")
        self.raises(TwoGivers, lambda: read_texts(BODY + other.replace("c(u)", "a(u)")), name="y")

    def test_outs_that_are_ins(self):
        with self.assertRaises(BadValue) as caught:
            read_texts("text a (u, v -> y, v)\ny = u + v")
        self.assertEqual(caught.exception.value, ("y", "v"))

    def test_a_text_called_whose_out_is_an_in(self):
        text = "text a (u -> y)\ny = u\nz = b(u)\ntext b (i -> i)\no = i"
        with self.assertRaises(BadValue) as caught:
            read_texts(text)
        self.assertEqual(caught.exception.value, ("call", ("z",), "b", ("u",)))
        self.assertRaises(Unknown, lambda: read_texts(text.replace("y = u\n", "y = c(u)\n")))

    def test_faults_of_texts_called_come_behind_the_call(self):
        rest = "text b (i -> o)\no = d(i)\ntext c (i -> o)\no = i\n"
        self.raises(Unknown, lambda: read_texts("text a (u -> y)\ny = b(u)\nz = e(u)\n" + rest), name="d")
        self.raises(Unknown, lambda: read_texts("text a (u -> y)\nz = e(u)\ny = b(u)\n" + rest), name="e")
        # The numbers of names come ahead of what stands in the text called, and are those of its own text.
        with self.assertRaises(BadValue) as caught:
            read_texts("text a (u -> y)\ny, z = b(u)\n" + rest)
        self.assertEqual(caught.exception.value, ("call", ("y", "z"), "b", ("u",)))
        with self.assertRaises(BadValue) as caught:
            read_texts("text a (u -> y)\ny = b(u)\ntext b (i -> o)\no, p = c(i)\ntext c (i -> o)\no = i\n")
        self.assertEqual(caught.exception.value, ("call", ("o", "p"), "c", ("i",)))

    def test_faults_of_other_kinds_of_texts_called_are_their_own(self):
        # b takes a wire that none gives: a, which calls it, does not know.
        self.raises(NoGiver, lambda: read_texts("text a (u -> y)\ny = b(u)\ntext b (i -> o)\no = i + n"), name="y.n")
        self.raises(NoGiver, lambda: read_texts("text b (i -> o)\no = i + n\ntext a (u -> y)\ny = b(u)"), name="n")
        self.raises(NoGiver, lambda: read_texts("text a (u -> y)\ny = b(u)\nz = y\ntext b (i -> o)\np = i"), name="y")

    def test_within(self):
        self.raises(Within, lambda: read_texts("text a (u -> y)\ny = a(u)"), name="a")
        for many in (2, 3, 7):
            ring = "".join(f"text t{number} (u -> y)\ny = t{(number + 1) % many}(u)\n" for number in range(many))
            self.raises(Within, lambda: read_texts(ring), name="t1")
            # A text that calls one of the ring, without being in it.
            self.raises(Within, lambda: read_texts("text a (u -> y)\ny = b(u)\ntext b (u -> y)\ny = t0(u)\n" + ring), name="t0")
        late = "text a (u -> y)\nz = b(u)\ny = a(u)\ntext b (u -> y)\ny = u\n"
        self.raises(Within, lambda: read_texts(late), name="a")
        self.raises(Unknown, lambda: read_texts(late.replace("y = u\n", "y = c(u)\n")), name="c")
        # Calls that meet again are no ring.
        text = "text a (u -> y)\ny = b(u)\nz = c(y)\ntext b (u -> y)\ny = d(u)\ntext c (u -> y)\ny = d(u)\ntext d (u -> y)\ny = u"
        self.assertEqual(len(read_texts(text)[0].statements), 2)

    def test_within_comes_ahead_of_the_numbers_of_names(self):
        text = "text a (u -> y)\ny = b(u)\ntext b (u -> y)\ny, z = b(u, u)\n"
        self.raises(Within, lambda: read_texts(text), name="b")

    def test_calls_of_calls_are_counted(self):
        doubled = "".join(f"text d{number} (u -> y)\n{twice(number)}" for number in range(300))
        last = "text d300 (u -> y)\ny = u\n"
        self.raises(TooMany, lambda: read_texts(doubled + last), most=60)
        few = "".join(f"text d{number} (u -> y)\n{twice(number)}" for number in range(295, 300))
        self.assertEqual(len(read_texts(few + last)[0].statements), 32)
        for more, fine in ((28, True), (29, False)):
            text = "text a (u -> y)\ny = d295(u)\n" + "".join(f"w{number} = u\n" for number in range(more)) + few + last
            if fine:
                self.assertEqual(len(read_texts(text)[0].statements), 60)
            else:
                self.raises(TooMany, lambda: read_texts(text), most=60)

    def test_long_rows_of_calls(self):
        row = "".join(f"text t{number} (u -> y)\ny = t{number + 1}(u)\n" for number in range(400))
        texts = read_texts(row + "text t400 (v -> w)\nw = 3*v\n")
        self.assertEqual([text.statements for text in texts[:-1]], [(("sum", "y", ((Ratio(3), "u"),)),)] * 400)
        self.raises(Unknown, lambda: read_texts(row), name="t400")

    def test_names_of_41_characters(self):
        rows = "".join(f"text t{number} (u -> y)\nwww = t{number + 1}(u)\ny = www\n" for number in range(9))
        last = "text t9 (u -> y)\n{} = u\ny = {}\n"
        for name, fine in (("abcd", True), ("abcde", False)):
            text = rows + last.replace("{}", name)
            if fine:
                self.assertIn("www." * 9 + "abcd", read_texts(text)[0].wires())
            else:
                self.raises(TooMany, lambda: read_texts(text), most=40)

    def test_random_texts(self):
        """[25] by a walk that goes through everything again and again."""
        chance = random.Random(30)
        kinds = {}
        for _ in range(400):
            table = random_drafts(chance)
            text = "".join(draft_text(name, *draft) for name, draft in table.items())
            expected = [fault_of(name, table) for name in table]
            expected = next((fault for fault in expected if fault), None)
            with self.subTest(text=text):
                try:
                    texts = read_texts(text)
                    told = None
                    self.assertEqual([list(text.statements) for text in texts],
                                     [unfolded_by_hand(draft[2], table) for draft in table.values()])
                except StreamError as error:
                    told = (type(error).__name__, *vars(error).values())
                self.assertEqual(told, expected)
            kinds[expected and expected[0]] = kinds.get(expected and expected[0], 0) + 1
        self.assertEqual(set(kinds), {None, "Unknown", "Within", "BadValue", "TooMany", "TwoGivers", "NoGiver", "Apart"})


def random_drafts(chance):
    """Texts with calls of each other, with faults here and there."""
    names = ["a", "b", "c", "d"][:chance.randint(1, 4)]
    table = {name: (["i", "j"][:chance.choice([1, 1, 1, 2])], ["o"], []) for name in names}
    for place, name in enumerate(names):
        ins, outs, rows = table[name]
        known = list(ins)
        for box in range(chance.choice([1, 2, 2, 3, 8])):
            wire = chance.choice([f"w{box}"] * 30 + ["i", "o", "w" * 30])
            taken = [chance.choice(known + known + ["o"] if chance.random() < 0.2 else known) for _ in range(2)]
            later = names[place + 1:] if chance.random() < 0.9 else [*names, "none"]
            if later and chance.random() < 0.6:
                called = chance.choice(later)
                many = len(table[called][0]) if called in table and chance.random() < 0.97 else 2
                rows.append(("call", (wire,), called, tuple(taken[:many])))
            else:
                rows.append(("sum", wire, tuple((ONE, name) for name in taken)))
            known.append(wire)
        last = known if chance.random() < 0.8 else chance.choice([["o", "x"], known[-1:], ["o"]])
        rows.append(("sum", "o", tuple((ONE, name) for name in last)))
        if chance.random() < 0.03:
            outs.append("i")
    return table


def draft_text(name, ins, outs, rows):
    lines = [f"text {name} ({', '.join(ins)} -> {', '.join(outs)})"]
    for row in rows:
        if row[0] == "call":
            lines.append(f"{', '.join(row[1])} = {row[2]}({', '.join(row[3])})")
        else:
            lines.append(f"{row[1]} = {' + '.join(wire for _, wire in row[2])}")
    return "\n".join(lines) + "\n"


def reached_from(name, table):
    """All texts that are called, by any number of calls."""
    found, more = set(), {row[2] for row in table[name][2] if row[0] == "call"}
    while more - found:
        found |= more
        more = {row[2] for one in found if one in table for row in table[one][2] if row[0] == "call"}
    return found


def call_fault(rows, table):
    for row in rows:
        if row[0] == "call":
            if row[2] not in table:
                return "Unknown", row[2]
            if row[2] in reached_from(row[2], table):
                return "Within", row[2]
            ins, outs, inside = table[row[2]]
            if (len(outs), len(ins)) != (len(row[1]), len(row[3])) or set(outs) & set(ins):
                return "BadValue", row
            fault = call_fault(inside, table)
            if fault:
                return fault
    return None


def fault_of(name, table):
    ins, outs, rows = table[name]
    fault = call_fault(rows, table)
    if fault:
        return fault
    boxes = unfolded_by_hand(rows, table)
    if len(boxes) > 60:
        return "TooMany", 60
    taken = [wire for box in boxes for _, wire in box[2]]
    if any(len(wire) > 40 for wire in taken + [box[1] for box in boxes]):
        return "TooMany", 40
    given = list(ins)
    for box in boxes:
        if box[1] in given:
            return "TwoGivers", box[1]
        given.append(box[1])
    for wire in taken + outs:
        if wire not in given:
            return "NoGiver", wire
    if set(ins) & set(outs):
        return "BadValue", tuple(outs)
    reached = {given[0]}
    for _ in boxes:
        for box in boxes:
            wires = {box[1], *[wire for _, wire in box[2]]}
            if wires & reached:
                reached |= wires
    apart = [wire for wire in given if wire not in reached]
    return ("Apart", apart[0]) if apart else None


if __name__ == "__main__":
    unittest.main()
