"""[7], [35], [95]: whether texts are alike, papers of likeness, and first partings."""

import random
import unittest
from fractions import Fraction

from allstreams.errors import StandsStill, TooMany, Unlike, Unpaced
from allstreams.likeness import alike, first_parting, likeness_paper
from allstreams.machines import Machine
from allstreams.matrices import Matrix, blocks, zeros
from allstreams.naming import machine_of
from allstreams.paces import paces
from allstreams.ratios import Ratio
from allstreams.reader import read_texts
from allstreams.shaped import text_of
from allstreams.wiring import Text
from tests.helpers import Case, fraction
from tests.random_machines import changed, random_machine
from tests.random_texts import living_text
from tests.streams_oracle import Oracle
from tests.test_needs import LONG, ODD, one_text
from tests.test_plans import HALVES, STUCK

CALLS = (alike, first_parting, likeness_paper)


def common_turns(one, other):
    """How many turns of each the common turn has, found by trying."""
    first, second = paces(one), paces(other)
    names = one.ins + one.outs
    for mine in range(1, 201):
        yours = [first[name] * mine // second[name] for name in names]
        if all(many == yours[0] and second[name] * many == first[name] * mine for name, many in zip(names, yours)):
            return mine, yours[0]
    return None


def in_order(text, other, machine):
    """The machine of other with its lanes in the order of the text."""
    ins, outs = places(text.ins, other.ins, machine.ins), places(text.outs, other.outs, machine.outs)
    def columns(matrix):
        return Matrix([[row[place] for place in ins] for row in matrix.rows], len(ins))
    return Machine(
        machine.a, columns(machine.b), Matrix([machine.c.rows[place] for place in outs], machine.size()),
        columns(Matrix([machine.d.rows[place] for place in outs], machine.d.width)), machine.start,
        [machine.ins[other.ins.index(name)] for name in text.ins],
        [machine.outs[other.outs.index(name)] for name in text.outs],
    )


def places(names, told, lanes):
    starts = {name: sum(lanes[:number]) for number, name in enumerate(told)}
    return [starts[name] + lane for name in names for lane in range(lanes[told.index(name)])]


def both_machines(one, other):
    mine, yours = common_turns(one, other)
    return machine_of(one).over(mine), in_order(one, other, machine_of(other).over(yours))


def tell_the_same(one, other):
    """By the letter of point 35: in the first n1 + n2 + 1 common turns, given noughts, and given a single 1."""
    first, second = both_machines(one, other)
    turns = first.size() + second.size() + 1
    lanes = first.b.width
    for lane in range(-1, lanes):
        columns = [[int(turn == 0 and place == lane) for place in range(lanes)] for turn in range(turns)]
        if first.run(columns) != second.run(columns):
            return False
    return True


class Likeness(Case):
    def check_paper(self, one, other):
        paper = likeness_paper(one, other)
        self.assertEqual([type(paper), [type(part) for part in paper]], [tuple, [Matrix] * 3])
        k, e, f = paper
        first, second = both_machines(one, other)
        size = first.size() + second.size()
        a = blocks([[first.a, zeros(first.size(), second.size())], [zeros(second.size(), first.size()), second.a]])
        b = blocks([[first.b], [second.b]])
        start = Matrix([[item] for item in first.start + second.start], 1)
        self.assertEqual([k.width, k.height <= size], [size, True])
        self.assertEqual(k * a, e * k)
        self.assertEqual([k * b, k * start], [zeros(k.height, b.width), zeros(k.height, 1)])
        self.assertEqual(f * k, blocks([[first.c, second.c * -1]]))
        self.assertEqual(first.d, second.d)

    def check_parting(self, one, other):
        parting = first_parting(one, other)
        self.assertEqual([type(parting), len(parting)], [tuple, 3])
        out, place, ins = parting
        self.assertEqual(sorted(ins), sorted(one.ins))
        for items in ins.values():
            self.assertEqual({type(item) for item in items} | {type(items)}, {list} | ({Ratio} if items else set()))
        self.assertNotEqual(Oracle(one, ins).item(out, place), Oracle(other, ins).item(out, place))
        told = paces(one)
        first, second = both_machines(one, other)
        here = (Fraction(place, told[out]), one.outs.index(out))
        # Nothing that comes earlier can differ: not with noughts, and not with a 1 anywhere up to then.
        for name in one.outs:
            for at in range(place * told[name] // told[out] + 2):
                if (Fraction(at, told[name]), one.outs.index(name)) < here:
                    self.same_at(one, other, name, at)

    def same_at(self, one, other, name, at):
        told = paces(one)
        choices = [{}]
        for wire in one.ins:
            choices += [{wire: [0] * before + [1]} for before in range((at // told[name] + 2) * told[wire] * 2)]
        for choice in choices:
            ins = {wire: choice.get(wire, []) for wire in one.ins}
            ins = {wire: [Ratio(item) for item in items] for wire, items in ins.items()}
            self.assertEqual(Oracle(one, ins).item(name, at), Oracle(other, ins).item(name, at))

    def like(self, one, other):
        for first, second in ((one, other), (other, one)):
            self.assertIs(alike(first, second), True)
            self.assertIsNone(first_parting(first, second))
            self.check_paper(first, second)

    def unlike(self, one, other, *parting):
        for first, second in ((one, other), (other, one)):
            self.assertIs(alike(first, second), False)
            self.assertIsNone(likeness_paper(first, second))
            self.check_parting(first, second)
        if parting:
            self.assertEqual(first_parting(one, other)[:2], parting)

    def test_alike(self):
        self.like(HALVES, HALVES)
        self.like(one_text("y = u"), one_text("a = 1/2*u\ny = a + a"))
        self.like(one_text("y = delay [0, 0] u"), one_text("a = delay [0] u\ny = delay [0] a"))
        self.like(one_text("y = u"), one_text("a, b = deal u\ny = weave a b"))
        self.like(one_text("y = u + 1/2*d\nd = delay [4] y"), one_text(
            "y = u + 1/4*d\nd = delay [8] z\nz = 2*y"))

    def test_names_in_other_orders(self):
        one = read_texts("text a (u, v -> y, z)\ny = u + 2*v\nz = u - v")[0]
        other = read_texts("text b (v, u -> z, y)\nz = u - v\ny = u + 2*v")[0]
        swapped = read_texts("text b (v, u -> y, z)\nz = u - v\ny = v + 2*u")[0]
        self.like(one, other)
        self.unlike(one, swapped, "y", 0)

    def test_paces_in_a_ratio(self):
        two = one_text("y = d\nd = delay [0] u\nt = thin 2 0 y")
        three = one_text("y = d\nd = delay [0] u\nt = thin 3 0 y")
        self.assertEqual([paces(two)["y"], paces(three)["y"], common_turns(two, three)], [2, 3, (3, 2)])
        self.like(two, three)
        late = one_text("y = d\nd = delay [1] u\nt = thin 3 0 y")
        self.unlike(two, late, "y", 0)
        far = one_text("y = u - 1/2*e\ne = delay [0, 0, 0, 0, 0] y\nt = thin 3 0 y")
        near = one_text("y = u - 1/2*e\ne = delay [0, 0, 0, 0] y\nt = thin 2 0 y")
        self.unlike(far, near, "y", 4)

    def test_late_partings(self):
        noughts = ", ".join(["0"] * 20)
        self.unlike(one_text(f"d = delay [{noughts}] u\ny = d"), one_text(f"d = delay [{noughts}, 0] u\ny = d"), "y", 20)
        self.unlike(one_text(f"d = delay [{noughts}, 1] u\ny = d"), one_text(f"d = delay [{noughts}, 2] u\ny = d"),
                    "y", 20)

    def test_only_with_a_stream_on_an_in(self):
        one, other = one_text("y = u + v", ins="u, v"), one_text("y = u + 2*v", ins="u, v")
        self.unlike(one, other, "y", 0)
        self.assertTrue(any(item != Ratio(0) for item in first_parting(one, other)[2]["v"]))
        ticks = read_texts("text a (-> y)\ny = source [1, 2]")[0], read_texts("text a (-> y)\ny = source [1, 2, 1]")[0]
        self.unlike(*ticks, "y", 3)
        self.assertEqual(first_parting(*ticks)[2], {})

    def test_the_out_that_comes_first_by_its_pace(self):
        def pair(slow, fast):
            return read_texts(f"text a (u -> s, f)\ns = thin 3 2 v\nv = u + {slow}*u\nf = u + {fast}*u")[0]
        # Out s has its item 0 at the beginning of the turn, f its item 2 later than that.
        self.unlike(pair(1, 1), pair(2, 2), "s", 0)
        self.unlike(pair(1, 1), pair(1, 2), "f", 0)
        other = read_texts("text a (u -> f, s)\ns = thin 3 2 v\nv = u + 2*u\nf = u + 2*u")[0]
        self.assertEqual(first_parting(other, pair(1, 1))[:2], ("f", 0))
        self.assertEqual(first_parting(pair(1, 1), other)[:2], ("s", 0))
        late = read_texts("text a (u -> s, f)\ns = thin 3 2 v\nv = u + u\nf = weave a b c\na, b, c = deal g\ng = u + u")[0]
        self.like(pair(1, 1), late)
        last = read_texts("text a (u -> s, f)\ns = thin 3 2 v\nv = u + u\nf = weave a b d\na, b, c = deal g\ng = u + u\n"
                          "d = 2*c")[0]
        self.unlike(late, last, "f", 2)

    def test_by_chance(self):
        chance = random.Random(111)
        found = {True: 0, False: 0}
        while min(found.values()) < 25:
            text, told = living_text(chance, range(1, 6), 20)
            machine = machine_of(text)
            if chance.random() < 0.6 and machine.size():
                start = list(machine.start)
                start[chance.randrange(len(start))] = Ratio(chance.randint(-1, 1))
                machine = changed(machine, start=start)
            if 2 * machine.size() + sum(machine.outs) + len(machine.ins) + len(machine.outs) > 59:
                continue
            other = text_of(machine, "other", text.ins, text.outs)
            same = tell_the_same(text, other)
            found[same] += 1
            if same:
                self.like(text, other)
            else:
                self.unlike(text, other)

    def test_machines_with_several_lanes_by_chance(self):
        chance = random.Random(112)
        for _ in range(40):
            machine = random_machine(chance, chance.randint(0, 3), chance.randint(0, 3), chance.randint(1, 4))
            names = [f"u{number}" for number in range(len(machine.ins))]
            outs = [f"y{number}" for number in range(len(machine.outs))]
            turns = chance.randint(1, 3)
            one, other = text_of(machine, "a", names, outs), text_of(machine.over(turns), "b", names, outs)
            self.like(one, other)
            name = chance.choice(["b", "c", "d"])
            told = getattr(machine, name)
            if told.height and told.width:
                rows = [list(row) for row in told.rows]
                rows[-1][-1] = rows[-1][-1] + 1
                third = text_of(changed(machine, **{name: Matrix(rows)}), "c", names, outs)
                if tell_the_same(third, other):
                    self.like(third, other)
                else:
                    self.unlike(third, other)

    def test_paper_without_rows(self):
        one = text_of(Machine(zeros(1, 1), Matrix([[1]]), zeros(1, 1), Matrix([[1]]), [1], [1], [1]), "a", ["u"], ["y"])
        k, e, f = likeness_paper(one, one_text("y = u"))
        self.assertEqual([k, e, f], [zeros(0, 1), zeros(0, 0), zeros(1, 0)])
        self.check_paper(one, one_text("y = u"))


class Errors(Case):
    def test_wrong(self):
        for call in CALLS:
            self.each_bad(lambda value: call(value, HALVES))
            self.each_bad(lambda value: call(HALVES, value))
            self.bad(1, lambda: call(1, 2))
            self.bad(2, lambda: call(ODD, 2))

    def test_order(self):
        other = Text("b", ["q"], ["y"], [("sum", "y", ((Ratio(1), "q"),))])
        odd = one_text("g = 1*u\nh = hold 2 u\ny = u + h")
        for call in CALLS:
            self.raises(Unpaced, lambda: call(ODD, odd), at=2)
            self.raises(Unpaced, lambda: call(odd, ODD), at=3)
            self.raises(Unpaced, lambda: call(STUCK, ODD), at=2)
            self.raises(TooMany, lambda: call(LONG, ODD), most=200)
            self.raises(Unpaced, lambda: call(ODD, LONG), at=2)
            self.raises(TooMany, lambda: call(STUCK, LONG), most=200)
            self.raises(StandsStill, lambda: call(STUCK, other))
            self.raises(StandsStill, lambda: call(other, STUCK))
            self.raises(Unlike, lambda: call(other, HALVES))

    def test_shapes(self):
        def text(ins, outs, lines):
            return read_texts(f"text a ({ins} -> {outs})\n{lines}")[0]
        plain = text("u, v", "y, z", "y = u + v\nz = u")
        for other in [text("u", "y, z", "y = u\nz = u"), text("u, v", "y", "y = u + v"),
                      text("u, w", "y, z", "y = u + w\nz = u"), text("u, v", "y, x", "y = u + v\nx = u"),
                      text("u, v, w", "y, z", "y = u + v\nz = w + u"),
                      text("u, v", "y, z", "y = u + v\nz = hold 2 u"), text("u, v", "y, z", "y = u + h\nh = hold 2 v\nz = u")]:
            for call in CALLS:
                self.raises(Unlike, lambda: call(plain, other))
                self.raises(Unlike, lambda: call(other, plain))

    def test_200_items_in_the_common_turn(self):
        def thinned(many, more):
            lines = "\n".join(f"s{number} = t" for number in range(more))
            return one_text(f"y = u\nt = thin {many} 0 y\n{lines}")
        one, other = thinned(13, 0), thinned(14, 0)
        self.assertEqual([sum(paces(one).values()), sum(paces(other).values())], [27, 29])
        # The common turn has 14 turns of the one, and 13 of the other.
        for call in CALLS:
            self.raises(TooMany, lambda: call(one, other), most=200)
        small, great = thinned(2, 40), thinned(9, 2)
        self.assertEqual([sum(paces(small).values()), sum(paces(great).values())], [45, 21])
        for call in CALLS:
            self.raises(TooMany, lambda: call(small, great), most=200)
            self.raises(TooMany, lambda: call(great, small), most=200)
        just, fine = thinned(3, 33), thinned(5, 0)
        self.assertEqual([5 * sum(paces(just).values()), 3 * sum(paces(fine).values())], [200, 33])
        self.assertTrue(alike(just, fine))
        over = thinned(3, 34)
        for call in CALLS:
            self.raises(TooMany, lambda: call(over, fine), most=200)
            self.raises(TooMany, lambda: call(fine, over), most=200)

    def test_results_are_new(self):
        one, other = one_text("y = u"), one_text("y = 2*u")
        first_parting(one, other)[2]["u"].append(1)
        first_parting(one, other)[2]["q"] = 1
        self.assertEqual(first_parting(one, other), first_parting(one, other))
        self.assertEqual(list(first_parting(one, other)[2]), ["u"])
        self.assertEqual(likeness_paper(one, one), likeness_paper(one, one))


if __name__ == "__main__":
    unittest.main()
