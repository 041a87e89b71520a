"""[62], [63], [115]: worths, needed instructions, alike rings, and the passes."""

import itertools
import random
import unittest
from fractions import Fraction

from allstreams.alikerings import merged_rings, ring_groups
from allstreams.codes import Code
from allstreams.coderuns import run_code
from allstreams.codeturns import same_codes
from allstreams.costs import cost
from allstreams.making import code_of
from allstreams.passes import (
    alike_rings, folded, joined_rings, needless, optimized, shared, simplified, trimmed, twins_in,
)
from allstreams.plans import first_plan
from allstreams.ratios import Ratio
from allstreams.reader import read_texts
from tests.helpers import Case, fraction
from tests.random_codes import crowded_code, random_code
from tests.random_texts import living_text
from tests.test_codes import HALF, ONE, loop

TWO, NOUGHT = Ratio(2), Ratio(0)
PASSES = [simplified, folded, trimmed, joined_rings, shared, optimized]


def told(instructions, cells=4, rings=(), ins=1, outs=1):
    """A code with one in and one out of so many items, without ins for 0."""
    return Code([("u", ins)] if ins else [], [("y", outs)], cells, list(rings), instructions)


def written(instruction):
    return instruction[1] if instruction[0] in ("take", "put", "sum", "pull") else None


def read(instruction):
    if instruction[0] == "sum":
        return [cell for _, cell in instruction[2]]
    return [instruction[2]] if instruction[0] in ("push", "give") else []


def is_copy(instruction):
    return instruction[0] == "sum" and len(instruction[2]) == 1 and instruction[2][0][0] == ONE


def worths_by_hand(code, parting):
    """The worths of what is written and of what is pushed, by the letter of point 62; parting tells a ring's class."""
    cells, pulls = {}, [0] * len(code.rings)
    worths, pushed = [], [[] for _ in code.rings]

    def at(cell):
        return cells.setdefault(cell, {("cell", cell): Fraction(1)})

    for number, instruction in enumerate(code.instructions):
        word, first, second = instruction
        worth = None
        if word == "take":
            worth = {("take", number): Fraction(1)}
        elif word == "put":
            worth = {"one": fraction(second)}
        elif word == "pull":
            worth = {("pull", parting[second], pulls[second]): Fraction(1)}
            pulls[second] += 1
        elif word == "sum":
            worth = {}
            for ratio, cell in second:
                for atom, times in at(cell).items():
                    worth[atom] = worth.get(atom, 0) + fraction(ratio) * times
        elif word == "push":
            pushed[first].append({atom: times for atom, times in at(second).items() if times})
        if worth is not None:
            cells[first] = worth = {atom: times for atom, times in worth.items() if times}
        worths.append(worth)
    return worths, pushed


def twins_by_hand(code):
    worths, _ = worths_by_hand(code, range(len(code.rings)))
    return tuple(
        number + 1 for number, instruction in enumerate(code.instructions)
        if instruction[0] in ("sum", "put") and not is_copy(instruction) and worths[number] in
        [worth for worth in worths[:number] if worth is not None]
    )


def needed_by_hand(code):
    """The fewest: they grow until nothing is missing any more."""
    told = code.instructions
    needed = {number for number, one in enumerate(told) if one[0] in ("take", "give")}
    while True:
        more = set()
        for number in needed:
            for cell in read(told[number]):
                writers = [other for other, one in enumerate(told) if written(one) == cell]
                ahead = [other for other in writers if other < number]
                more |= set((ahead or writers)[-1:])
            if told[number][0] == "pull":
                ring = told[number][2]
                more |= {other for other, one in enumerate(told)
                         if (one[0] == "pull" and one[2] == ring) or (one[0] == "push" and one[1] == ring)}
        if more <= needed:
            return needed
        needed |= more


def partings(many):
    """All partings of so many rings, each as a list of the first rings of their classes."""
    if many == 0:
        return [[]]
    found = []
    for told in partings(many - 1):
        found += [[*told, first] for first in sorted(set(told))] + [[*told, many - 1]]
    return found


def alike_by_hand(code):
    """The coarsest of all partings that do what the words ask."""
    many = len(code.rings)
    right = []
    for parting in partings(many):
        _, pushed = worths_by_hand(code, parting)
        if all(code.rings[one] == code.rings[other] and pushed[one] == pushed[other]
               for one, other in itertools.combinations(range(many), 2) if parting[one] == parting[other]):
            right.append(parting)
    best = min(right, key=lambda parting: len(set(parting)))
    groups = [tuple(ring for ring in range(many) if best[ring] == first) for first in sorted(set(best))]
    return tuple(group for group in groups if len(group) > 1)


class Words(Case):
    def test_twins(self):
        for instructions, twins in (
            ([("take", 0, "u"), ("sum", 1, ((ONE, 0), (ONE, 0))), ("sum", 2, ((TWO, 0),)), ("give", "y", 1)], (3,)),
            ([("take", 0, "u"), ("sum", 1, ((ONE, 0),)), ("sum", 2, ((ONE, 0),)), ("give", "y", 1)], ()),
            ([("take", 0, "u"), ("sum", 1, ((HALF, 0), (HALF, 0))), ("sum", 2, ((ONE, 0), (NOUGHT, 1))), ("give", "y", 1)],
             (2, 3)),
            ([("put", 0, HALF), ("take", 0, "u"), ("put", 1, HALF), ("put", 1, ONE), ("sum", 2, ((TWO, 1), (-ONE, 1))),
              ("give", "y", 1)], (3, 5)),
            ([("put", 0, NOUGHT), ("sum", 1, ()), ("take", 1, "u"), ("sum", 2, ((ONE, 1), (-ONE, 1))), ("give", "y", 1)], (2, 4)),
            # What was written to a cell that has been written again since.
            ([("take", 0, "u"), ("sum", 1, ((TWO, 0),)), ("put", 1, ONE), ("sum", 1, ((TWO, 0),)), ("give", "y", 1)], (4,)),
            # What a kept cell holds has no instruction.
            ([("sum", 1, ((TWO, 0), (-ONE, 0))), ("take", 0, "u"), ("give", "y", 1)], ()),
            ([("sum", 1, ((TWO, 0),)), ("sum", 2, ((ONE, 0), (ONE, 0))), ("take", 0, "u"), ("give", "y", 2)], (2,)),
        ):
            with self.subTest(instructions=instructions):
                self.assertEqual(twins_in(told(instructions)), twins)
        self.assertEqual(twins_in(loop()), ())

    def test_twins_through_rings(self):
        code = told([("pull", 0, 0), ("pull", 1, 1), ("take", 2, "u"), ("push", 0, 2), ("push", 1, 2),
                     ("sum", 2, ((TWO, 0),)), ("sum", 3, ((TWO, 1),)), ("give", "y", 3)], rings=[[0], [0]])
        self.assertEqual([twins_in(code), alike_rings(code)], [(), ((0, 1),)])
        joined = joined_rings(code)
        self.assertEqual([len(joined.rings), alike_rings(joined), len(twins_in(joined))], [1, (), 1])
        self.assertEqual(cost(optimized(code))[0], 1)

    def test_needed(self):
        for instructions, rings, wrong in (
            ([("take", 0, "u"), ("put", 1, ONE), ("sum", 2, ((ONE, 1),)), ("give", "y", 0)], [], (2, 3)),
            ([("take", 0, "u"), ("sum", 1, ((NOUGHT, 2),)), ("put", 2, ONE), ("put", 2, TWO), ("give", "y", 1)], [], (3,)),
            ([("take", 0, "u"), ("pull", 1, 0), ("push", 0, 0), ("give", "y", 0)], [[1]], (2, 3)),
            ([("take", 0, "u"), ("pull", 1, 0), ("pull", 2, 0), ("push", 0, 2), ("push", 0, 0), ("give", "y", 1)], [[1, 2]], ()),
            # Only a later turn needs it.
            ([("give", "y", 1), ("sum", 1, ((ONE, 2),)), ("take", 2, "u"), ("sum", 2, ((ONE, 2), (ONE, 3))), ("put", 3, ONE)],
             [], ()),
            ([("give", "y", 1), ("take", 1, "u"), ("sum", 2, ((ONE, 2), (ONE, 1)))], [], (3,)),
            ([("take", 1, "u"), ("take", 0, "u"), ("put", 1, ONE), ("give", "y", 0)], [], (3,)),
        ):
            with self.subTest(instructions=instructions):
                code = told(instructions, rings=rings, ins=len([one for one in instructions if one[0] == "take"]))
                self.assertEqual(needless(code), wrong)
                self.assertEqual(len(trimmed(code).instructions), len(instructions) - len(wrong))

    def test_alike_rings(self):
        move = lambda ring, cell: [("pull", cell, ring), ("push", ring, cell)]
        for instructions, rings, groups in (
            ([*move(0, 0), *move(1, 1)], [[1], [1]], ((0, 1),)),
            ([*move(0, 0), *move(1, 1)], [[1], [2]], ()),
            ([*move(0, 0), *move(1, 1)], [[1, 1], [1]], ()),
            ([*move(0, 0), *move(1, 1), *move(1, 1)], [[1], [1]], ()),
            # Alike only together: each is pushed what comes of the other one.
            ([("pull", 0, 0), ("pull", 1, 1), ("push", 0, 1), ("push", 1, 0)], [[1], [1]], ((0, 1),)),
            ([("pull", 0, 0), ("pull", 1, 1), ("sum", 2, ((TWO, 1),)), ("push", 0, 2), ("push", 1, 0)], [[1], [1]], ()),
            # Rings without a number, rings that nobody uses.
            ([("put", 2, ONE), ("push", 0, 2), ("push", 1, 2), ("pull", 0, 0), ("pull", 1, 1)], [[], []], ((0, 1),)),
            ([], [[1, 2], [], [1, 2], []], ((0, 2), (1, 3))),
        ):
            with self.subTest(instructions=instructions, rings=rings):
                code = told([*instructions, ("give", "y", 3)], rings=rings, ins=0)
                self.assertEqual(alike_rings(code), groups)
                self.assertEqual(alike_by_hand(code), groups)

    def test_by_chance(self):
        chance = random.Random(421)
        seen = [0, 0, 0]
        for _ in range(300):
            code = random_code(chance, 8, 3, 4)
            self.assertEqual(twins_in(code), twins_by_hand(code))
            needed = needed_by_hand(code)
            self.assertEqual(needless(code), tuple(number + 1 for number in range(len(code.instructions))
                                                   if number not in needed))
            self.assertEqual(alike_rings(code), alike_by_hand(code))
            seen = [one + bool(more) for one, more in zip(seen, (twins_in(code), needless(code), alike_rings(code)))]
        self.assertGreater(min(seen), 8)


class Passes(Case):
    def check(self, code, chance):
        """Each pass tells a code that does the same; what it promises; the code stays as it is."""
        again = Code(code.ins, code.outs, code.cells, code.rings, code.instructions)
        ins = {name: [chance.randint(-5, 5) for _ in range(6 * many)] for name, many in code.ins}
        outs = run_code(code, ins, 6)
        products, additions = cost(code)[:2]
        for change in PASSES:
            new = change(code)
            self.assertEqual([type(new), new.ins, new.outs], [Code, code.ins, code.outs])
            self.assertEqual(run_code(new, ins, 6), outs)
            self.assertTrue(same_codes(code, new))
            self.assertEqual([code, change(code=code)], [again, new])
            if change in (simplified, folded, trimmed, optimized):
                self.assertEqual(change(new), new)
            if change in (folded, trimmed, joined_rings, shared):
                self.assertTrue(cost(new)[0] <= products and cost(new)[1] <= additions)
        self.assertEqual([alike_rings(joined_rings(code)), twins_in(shared(code)), needless(trimmed(code))], [(), (), ()])
        best = optimized(code)
        self.assertEqual([alike_rings(best), twins_in(best)], [(), ()])
        self.assertEqual([simplified(best), folded(best), trimmed(best)], [best, best, best])
        self.assertLessEqual(sum(cost(best)[:2]), products + additions)
        return best

    def test_simplified(self):
        code = told([("take", 0, "u"), ("sum", 1, ((ONE, 2), (ONE, 0), (HALF, 2))), ("sum", 2, ((ONE, 0), (-ONE, 0))),
                     ("sum", 3, ()), ("sum", 3, ((NOUGHT, 1),)), ("sum", 3, ((NOUGHT, 1), (TWO, 0), (ONE, 1))), ("give", "y", 1)])
        self.assertEqual(simplified(code), told([
            ("take", 0, "u"), ("sum", 1, ((ONE, 0), (Ratio(3, 2), 2))), ("put", 2, NOUGHT), ("put", 3, NOUGHT),
            ("put", 3, NOUGHT), ("sum", 3, ((TWO, 0), (ONE, 1))), ("give", "y", 1)]))

    def test_folded(self):
        code = told([("take", 0, "u"), ("put", 1, HALF), ("sum", 2, ((TWO, 1),)), ("sum", 3, ((ONE, 1),)),
                     ("sum", 2, ((ONE, 3), (ONE, 2))), ("sum", 2, ((ONE, 2), (ONE, 0))), ("sum", 3, ((ONE, 2), (-ONE, 0))),
                     ("sum", 1, ()), ("give", "y", 2)])
        self.assertEqual(folded(code), told([
            ("take", 0, "u"), ("put", 1, HALF), ("put", 2, ONE), ("sum", 3, ((ONE, 1),)), ("put", 2, Ratio(3, 2)),
            ("sum", 2, ((ONE, 2), (ONE, 0))), ("put", 3, Ratio(3, 2)), ("put", 1, NOUGHT), ("give", "y", 2)]))
        # A kept cell may change from turn to turn, so nothing of it is a ratio alone.
        kept = told([("sum", 1, ((ONE, 0), (ONE, 0))), ("put", 0, ONE), ("give", "y", 1)], ins=0)
        self.assertEqual(folded(kept), kept)

    def test_trimmed(self):
        code = told([("take", 3, "u"), ("pull", 0, 0), ("push", 0, 0), ("pull", 5, 2), ("push", 2, 3), ("put", 1, ONE),
                     ("sum", 5, ((ONE, 5), (TWO, 3))), ("give", "y", 5)], 7, [[1], [2, 3], [4], []])
        self.assertEqual(trimmed(code), told([
            ("take", 0, "u"), ("pull", 1, 0), ("push", 0, 0), ("sum", 1, ((ONE, 1), (TWO, 0))), ("give", "y", 1)], 2, [[4]]))

    def test_joined(self):
        """Rings of one class whose numbers are pulled at other times, and pushed and pulled within a turn."""
        chance = random.Random(422)
        for instructions, rings in (
            ([("pull", 0, 0), ("push", 0, 0), ("pull", 1, 1), ("push", 1, 1), ("sum", 2, ((ONE, 0), (ONE, 1)))], [[1], [1]]),
            ([("take", 2, "u"), ("push", 1, 2), ("pull", 1, 1), ("pull", 0, 0), ("push", 0, 2), ("sum", 2, ((TWO, 0), (ONE, 1)))],
             [[7], [7]]),
            ([("take", 2, "u"), ("push", 1, 2), ("push", 0, 2), ("put", 2, ONE), ("push", 1, 2), ("push", 0, 2), ("pull", 1, 1),
              ("pull", 0, 1), ("pull", 1, 0), ("pull", 2, 0), ("sum", 2, ((TWO, 0), (ONE, 1), (ONE, 2)))], [[], []]),
            ([("take", 2, "u"), ("push", 1, 2), ("pull", 1, 1), ("push", 0, 2), ("put", 2, ONE), ("pull", 0, 0), ("push", 0, 2),
              ("push", 1, 2), ("pull", 0, 1), ("pull", 2, 0), ("sum", 2, ((TWO, 0), (ONE, 1), (ONE, 2)))], [[5], [5]]),
            ([("pull", 0, 0), ("pull", 1, 1), ("pull", 2, 2), ("push", 0, 1), ("push", 1, 2), ("push", 2, 0)], [[3], [3], [3]]),
        ):
            code = told([*instructions, ("give", "y", 2)], rings=rings, ins=int(instructions[0][0] == "take"))
            self.assertGreater(len(alike_rings(code)), 0)
            self.assertEqual(len(joined_rings(code).rings), 1)
            self.check(code, chance)

    def test_rings_that_joining_makes_alike(self):
        """What is pulled from a ring that is left out is what was pushed: so others become alike, one after another."""
        chance = random.Random(425)
        code = Code([("u", 2)], [("y", 1), ("z", 1)], 1, [[], [], []], [
            ("give", "z", 0), ("push", 0, 0), ("push", 1, 0), ("pull", 0, 0), ("pull", 0, 1), ("push", 2, 0),
            ("push", 0, 0), ("push", 1, 0), ("give", "y", 0), ("pull", 0, 2), ("pull", 0, 0), ("pull", 0, 1),
            ("push", 2, 0), ("take", 0, "u"), ("take", 0, "u"), ("pull", 0, 2)])
        self.assertEqual([alike_rings(code), len(joined_rings(code).rings)], [((0, 1),), 1])
        self.check(code, chance)
        # Each ring is pushed what comes of the one ahead: only the first two are alike, as long as these are two.
        chain = [("take", 0, "u"), ("push", 0, 0), ("push", 1, 0), ("pull", 1, 0)]
        for ring in range(1, 9):
            chain += [("pull", 1, ring), ("push", ring + 1, 1)]
        code = told([*chain, ("pull", 1, 9), ("give", "y", 1)], rings=[[]] * 10)
        self.assertEqual([alike_rings(code), len(joined_rings(code).rings)], [((0, 1),), 1])
        self.check(code, chance)
        # A number that is there at first is nothing that was pushed in the turn.
        begun = Code(code.ins, code.outs, code.cells, [[3]] * 10, code.instructions)
        self.assertEqual([alike_rings(begun), len(joined_rings(begun).rings)], [((0, 1),), 9])
        self.check(begun, chance)

    def test_crowded_rings(self):
        chance = random.Random(426)
        rounds = [0, 0, 0, 0]
        for number in range(600):
            code = crowded_code(chance, 6)
            joined, many = code, 0
            while alike_rings(joined):
                joined, many = merged_rings(joined, ring_groups(joined)), many + 1
            rounds[min(many, 3)] += 1
            if many > 1 or number % 10 == 0:
                self.check(code, chance)
                self.assertEqual(len(joined_rings(code).rings), len(joined.rings))
        self.assertGreater(min(rounds), 0)

    def test_nothing_to_do(self):
        for change in (simplified, folded, trimmed, joined_rings, shared, optimized):
            self.assertEqual(change(loop()), loop())

    def test_optimized(self):
        code = told([("take", 0, "u"), ("sum", 1, ((ONE, 0), (ONE, 0))), ("give", "y", 1)])
        self.assertEqual(optimized(code), told([("take", 0, "u"), ("sum", 1, ((TWO, 0),)), ("give", "y", 1)], 2))
        self.assertEqual([cost(code)[:2], cost(optimized(code))[:2]], [(0, 1), (1, 0)])

    def test_by_chance(self):
        chance = random.Random(423)
        for _ in range(150):
            self.check(random_code(chance, 9, 4, 4), chance)

    def test_codes_of_texts(self):
        chance = random.Random(424)
        for _ in range(25):
            text, _ = living_text(chance)
            self.check(code_of(text, first_plan(text)), chance)
        text = read_texts("text a (u -> y)\nd = delay [1] x\ne = delay [1] z\nx = u + 1/2*d\nz = 1/2*e + u\n"
                          "y = 3*d + 2*e + 1/3*d\n")[0]
        code = code_of(text, first_plan(text))
        # The two loops do the same, though each for itself could do anything.
        self.assertEqual(alike_rings(code), ((0, 1),))
        best = self.check(code, chance)
        self.assertEqual([len(best.rings), cost(code)[:2]], [1, (5, 4)])
        self.assertLess(sum(cost(best)[:2]), 9)

    def test_wrong_inputs(self):
        for call in [*PASSES, twins_in, needless, alike_rings, cost]:
            self.each_bad(call)


class Costs(Case):
    """[64], [118]."""

    def test_costs(self):
        self.assertEqual(cost(loop()), (1, 1, 3, 2))
        code = told([("take", 0, "u"), ("sum", 1, ()), ("sum", 1, ((NOUGHT, 0),)), ("sum", 1, ((-ONE, 0), (ONE, 0), (HALF, 1))),
                     ("put", 2, HALF), ("give", "y", 1)], 9, [[1, 2], [], [3]])
        self.assertEqual([cost(code=code), type(cost(code))], [(2, 2, 9, 3), tuple])
        self.assertEqual(cost(told([("give", "y", 0)], 1, ins=0)), (0, 0, 1, 0))


class Sizes(Case):
    """[123]."""

    def test_great_codes(self):
        rows = "\n".join(f"y{number} = u + 1/2*d{number}\nd{number} = delay [0, 1] y{number}" for number in range(29))
        outs = " + ".join(f"d{number}" for number in range(29))
        text = read_texts(f"text a (u -> y)\n{rows}\ny = {outs}\n")[0]
        code = code_of(text, first_plan(text))
        self.assertEqual(alike_rings(code), (tuple(range(29)),))
        best = optimized(code)
        self.assertEqual([len(best.rings), same_codes(best, code)], [1, True])


if __name__ == "__main__":
    unittest.main()
