"""[2], [20], [21], [81]: ruled streams."""

import random
from fractions import Fraction

from allstreams.lanes import held, stretched, thinned, woven
from allstreams.matrices import Matrix
from allstreams.polys import Poly
from allstreams.quotients import Quotient
from allstreams.ratios import Ratio
from allstreams.ruled import Ruled, first_apart, ruled_of, woven_of
from tests.helpers import Case, STRANGE, fraction, random_poly, random_ratio

S = Poly([0, 1])
ONE = Poly([1])
HALF = Ratio(1, 2)
NO_LISTS = [value for value in STRANGE if not isinstance(value, (list, tuple))]
NOUGHTS = Ruled([], ONE)
PAIRS = Ruled([0, 1], S * S - S - 1)
ONES = Ruled([1], S - 1)


def ratios(items):
    return [Ratio(item) for item in items]


def some_ruled(chance, most=4):
    """A stream by a rule of some degree; often with powers of s, or with factors twice."""
    rule = ONE
    while rule.degree() < most and chance.random() < 0.8:
        rule = rule * chance.choice([S, S - 1, S - 1, S + 1, S - 2, S - HALF, S * S + 1, S * S - S - 1])
    return Ruled([random_ratio(chance, 3) for _ in range(rule.degree())], rule)


def items_by(begun, rule, many):
    """The first items, as the rule tells them one by one."""
    items = [Fraction(fraction(Ratio(1) * item)) for item in begun]
    parts = [fraction(part) for part in rule.parts]
    while len(items) < many:
        at = len(items) - len(parts) + 1
        items.append(-sum(part * items[at + number] for number, part in enumerate(parts[:-1])))
    return items[:many]


def least_degree(items, most):
    """The rank of the table of the items: the degree of the least rule, if it is at most so great."""
    rows = [[items[one + other] for other in range(most)] for one in range(most)]
    rank = 0
    for column in range(most):
        pivot = next((row for row in rows[rank:] if row[column]), None)
        if pivot is None:
            continue
        rows.remove(pivot)
        rows = [[a - b * row[column] / pivot[column] for a, b in zip(row, pivot)] if at >= rank else row
                for at, row in enumerate(rows)]
        rows.insert(rank, pivot)
        rank += 1
    return rank


class Streams(Case):
    def check(self, stream, expected):
        """The stream has these first items, and tells its least rule and as many items as this has degrees."""
        expected = [fraction(item) if isinstance(item, Ratio) else Fraction(item) for item in expected]
        degree = stream.rule.degree()
        self.assertGreaterEqual(len(expected), 2 * degree + 2)
        self.assertEqual([fraction(item) for item in stream.beginning(len(expected))], expected)
        self.assertEqual([type(stream.begun), len(stream.begun), type(stream.rule)], [tuple, degree, Poly])
        self.assertEqual(stream.rule.parts[-1], Ratio(1))
        self.assertEqual(items_by(stream.begun, stream.rule, len(expected)), expected)
        self.assertEqual(least_degree(expected, degree + 1), degree)

    def several(self, seed, many=60):
        chance = random.Random(seed)
        for _ in range(many):
            yield chance, some_ruled(chance)

    def test_told_by_rules(self):
        chance = random.Random(20)
        for _ in range(80):
            degree = chance.randint(0, 5)
            rule = random_poly(chance, degree - 1, 2) + S.power(degree)
            begun = [random_ratio(chance, 2) for _ in range(degree)]
            self.check(Ruled(begun, rule), items_by(begun, rule, 14))

    def test_least_rules(self):
        self.assertEqual((NOUGHTS.begun, NOUGHTS.rule), ((), ONE))
        self.assertEqual(Ruled([0, 0, 0], S.power(3) - 2).rule, ONE)
        self.assertEqual((Ruled([1, 1], (S - 1) * (S - 1)).begun, Ruled([1, 1], (S - 1).power(2)).rule), ((Ratio(1),), S - 1))
        self.assertEqual(Ruled([0, 1], (S - 1).power(2)).rule, (S - 1).power(2))
        self.assertEqual(Ruled([5, 0, 0], S.power(3)).rule, S)
        self.assertEqual(Ruled([0, 0, 5], S.power(3)).rule, S.power(3))
        self.assertEqual(Ruled([3, 2, 4], S * (S - 2) * (S - 1)).rule, S * (S - 2))
        self.assertEqual(Ruled(begun=(1, 2), rule=S * (S - 2)).rule, S - 2)

    def test_least_rules_divide(self):
        for chance, stream in self.several(21):
            more = stream.rule * (S - 3) * S
            again = Ruled(stream.beginning(more.degree()), more)
            self.assertEqual((again.rule, again.begun, again == stream), (stream.rule, stream.begun, True))

    def test_equality(self):
        self.assertTrue(Ruled([1, 2], S * (S - 2)) == Ruled([1], S - 2))
        self.assertFalse(Ruled([1], S - 2) == Ruled([1], S - 3))
        self.assertFalse(Ruled([1], S - 2) == Ruled([2], S - 2))
        self.assertTrue(PAIRS != [0, 1] and PAIRS != PAIRS.quotient() and not NOUGHTS == 0 and NOUGHTS != None)  # noqa
        for chance, stream in self.several(22):
            other = some_ruled(chance)
            many = stream.rule.degree() + other.rule.degree()
            self.assertEqual(stream == other, stream.beginning(many) == other.beginning(many))

    def test_first_apart(self):
        self.assertIsNone(first_apart(one=PAIRS, other=PAIRS.behind([0]).later(1)))
        self.assertEqual(first_apart(PAIRS, PAIRS + ONES), 0)
        # They part only at place d + e - 1: 0 0 0 .. 0 1 and noughts.
        for degree in range(1, 6):
            for other in range(0, degree + 1):
                late = Ruled([0] * (degree - 1) + [1], S.power(degree))
                self.assertEqual(first_apart(late, NOUGHTS), degree - 1)
        one, other = Ruled([1, 1], S * S - S - 1), Ruled([1, 1, 2], S.power(3) - 5)
        self.assertEqual(first_apart(one, other), 3)
        # A polynomial of degree d + e - 1 that is 0 at the places ahead of it, parted in two.
        one = Ruled([0, 0, 1], (S - 1).power(3))
        other = Ruled([0, 0, 1, 3], (S - 1).power(3) * (S - 2))
        self.assertIsNone(first_apart(one, other))
        for chance, stream in self.several(23):
            other = some_ruled(chance)
            left, right = stream.beginning(20), other.beginning(20)
            places = [place for place in range(20) if left[place] != right[place]]
            self.assertEqual(first_apart(stream, other), places[0] if places else None)

    def test_parting_as_late_as_can_be(self):
        """Rules of degrees d and e without a common factor, the difference 0 at d + e - 1 places."""
        for one_rule, other_rule in ((S - 1, S - 2), ((S - 1) * (S + 1), S - 2), (S * S + 1, (S - 3).power(2)), (S, S - 1)):
            many = one_rule.degree() + other_rule.degree()
            difference = Ruled([0] * (many - 1) + [1], one_rule * other_rule)
            # It is the sum of two streams by the two rules: the first one is what the other rule leaves.
            start = applied(other_rule, difference, one_rule.degree())
            one = solved_by(other_rule, one_rule, start)
            other = one - difference
            self.assertEqual((one.rule, other.rule), (one_rule, other_rule))
            self.assertEqual(first_apart(one, other), many - 1)
            self.assertNotEqual(one, other)

    def test_items(self):
        self.assertEqual((PAIRS.item(place=0), PAIRS.item(1), PAIRS.item(30)), (Ratio(0), Ratio(1), Ratio(832040)))
        self.assertEqual((PAIRS.beginning(many=0), PAIRS.beginning(3)), ([], ratios([0, 1, 1])))
        self.assertEqual((NOUGHTS.item(1000), NOUGHTS.beginning(2), ONES.item(1000)), (Ratio(0), ratios([0, 0]), Ratio(1)))
        self.assertEqual((len(PAIRS.beginning(1000)), PAIRS.beginning(1000)[999]), (1000, PAIRS.item(999)))
        for chance, stream in self.several(24, 20):
            self.assertEqual([stream.item(place) for place in range(12)], stream.beginning(12))

    def test_later_and_behind(self):
        for chance, stream in self.several(25):
            items = [random_ratio(chance, 2) for _ in range(chance.randint(0, 4))]
            first = stream.beginning(20)
            self.check(stream.behind(items=items), [*items, *first])
            self.check(stream.later(many=len(items)), first[len(items):])
            self.assertEqual(stream.behind(items).later(len(items)), stream)
            self.assertEqual(stream.later(3).behind(first[:3]), stream)
        self.assertEqual(PAIRS.behind((1,)).rule, S * S - S - 1)
        self.assertEqual(PAIRS.behind([5]).rule, S * (S * S - S - 1))
        self.assertEqual((PAIRS.later(0), PAIRS.behind([]), PAIRS.later(1000).item(0)), (PAIRS, PAIRS, PAIRS.item(1000)))
        self.assertEqual(NOUGHTS.behind([0, 0]), NOUGHTS)

    def test_sums_and_multiples(self):
        for chance, stream in self.several(26):
            other, factor = some_ruled(chance), random_ratio(chance)
            left, right = stream.beginning(24), other.beginning(24)
            self.check(stream + other, [one + two for one, two in zip(left, right)])
            self.check(stream - other, [one - two for one, two in zip(left, right)])
            self.check(stream * factor, [one * factor for one in left])
            self.assertEqual(factor * stream, stream * factor)
            self.assertEqual(-stream, stream * -1)
            self.assertEqual(-stream, NOUGHTS - stream)
        self.assertEqual((PAIRS * 0, 0 * PAIRS, PAIRS - PAIRS), (NOUGHTS,) * 3)
        self.assertEqual((2 * ONES, HALF * ONES), (Ruled([2], S - 1), Ruled([HALF], S - 1)))
        self.assertEqual((Ruled([1], S - 2) + Ruled([1], S - 3)).rule, (S - 2) * (S - 3))

    def test_thinned(self):
        for chance, stream in self.several(27):
            many = chance.randint(2, 6)
            first = stream.beginning(20 * many)
            for rest in range(many):
                self.check(stream.thinned(many=many, rest=rest), thinned(first, many, rest))
        self.assertEqual(Ruled([1], S + 1).thinned(2, 1), Ruled([-1], S - 1))
        self.assertEqual(Ruled([1, 0], S * S + 1).thinned(2, 1), NOUGHTS)
        self.assertEqual(Ruled([2, 1], S.power(2)).thinned(2, 1), Ruled([1], S))
        self.assertEqual(ONES.thinned(60, 59), ONES)

    def test_stretched_and_held(self):
        for chance, stream in self.several(28, 30):
            many = chance.randint(2, 4)
            first = stream.beginning(12)
            self.check(stream.stretched(many=many), stretched(first, many))
            self.check(stream.held(many=many), held(first, many))
            for rest in range(many):
                self.assertEqual(stream.held(many).thinned(many, rest), stream)
                self.assertEqual(stream.stretched(many).thinned(many, rest), NOUGHTS if rest else stream)
        self.assertEqual((ONES.held(60), NOUGHTS.held(2), NOUGHTS.stretched(60)), (ONES, NOUGHTS, NOUGHTS))

    def test_woven(self):
        for chance, stream in self.several(29, 40):
            streams = [stream, *[some_ruled(chance, 2) for _ in range(chance.randint(1, 3))]]
            whole = woven_of(streams=streams)
            many = len(streams)
            self.check(whole, woven([one.beginning(80 // many + 1) for one in streams])[:80])
            self.assertEqual([whole.thinned(many, rest) for rest in range(many)], streams)
        self.assertEqual((woven_of((ONES, ONES)), woven_of([NOUGHTS] * 60)), (ONES, NOUGHTS))
        self.assertEqual(woven_of([ONES, NOUGHTS]), ONES.stretched(2))

    def test_divided(self):
        for chance, stream in self.several(30):
            poly = random_poly(chance, chance.randint(0, 3), 3)
            if poly == Poly([]):
                continue
            degree = poly.degree()
            quotient = stream.divided(poly=poly)
            items = quotient.beginning(24)
            self.check(quotient, items)
            self.assertEqual(items[:degree], ratios([0] * degree))
            for place, told in enumerate(stream.beginning(24 - degree)):
                total = sum((part * items[place + number] for number, part in enumerate(poly.parts)), Ratio(0))
                self.assertEqual(total, told)
        self.assertEqual(ONES.divided(Poly([2])), ONES * HALF)
        self.assertEqual(ONES.divided(S.power(2)), ONES.behind([0, 0]))
        self.assertEqual(ONES.divided(S - 1), Ruled([0, 1], (S - 1).power(2)))
        self.assertEqual(NOUGHTS.divided(S - 5), NOUGHTS)

    def test_quotients(self):
        self.assertEqual(PAIRS.quotient(), Quotient(S, 1 - S - S * S))
        self.assertEqual((NOUGHTS.quotient(), ruled_of(quotient=Quotient(0, 1))), (Quotient(0, 1), NOUGHTS))
        self.assertEqual(ruled_of(Quotient(S * S, 1)), Ruled([0, 0, 1], S.power(3)))
        # The least rule: the turned bottom, times s to the power e + 1 - b.
        self.assertEqual(ruled_of(Quotient(S.power(3) + 1, 1 - 2 * S)).rule, (S - 2) * S.power(3))
        self.assertEqual(ruled_of(Quotient(1, 1 - S * S)).rule, S * S - 1)
        for chance, stream in self.several(31):
            self.assertEqual(stream.quotient().first(15), stream.beginning(15))
            self.assertEqual(ruled_of(stream.quotient()), stream)
            quotient = Quotient(random_poly(chance, 3, 3), 1 + S * random_poly(chance, 1, 3))
            self.check(ruled_of(quotient), quotient.first(16))


def applied(rule, stream, many):
    """The first items of the stream on which a rule is used as a sum of places on."""
    items = stream.beginning(many + rule.degree())
    return [sum((part * items[place + number] for number, part in enumerate(rule.parts)), Ratio(0)) for place in range(many)]


def solved_by(poly, rule, start):
    """The stream by the rule on which the poly, used as a sum of places on, gives these first items."""
    degree = rule.degree()
    units = [Ruled([int(place == number) for place in range(degree)], rule) for number in range(degree)]
    columns = [applied(poly, unit, degree) for unit in units]
    solution = Matrix(columns).turned().solved(Matrix([[item] for item in start]))
    return Ruled([row[0] for row in solution.rows], rule)


class WrongArguments(Case):
    def test_made(self):
        self.each_bad(lambda value: Ruled(value, "x"), NO_LISTS)
        self.each_bad(lambda value: Ruled([1, value, "x"], S), [value for value in STRANGE if value != HALF])
        self.each_bad(lambda value: Ruled([1], value))
        for rule in (ONE, 2 * S, S * S, Poly([]), Poly([1, 1, 0, HALF])):
            self.bad(rule, lambda: Ruled([1], rule))
        for rule in (S, 2 * ONE, Poly([])):
            self.bad(rule, lambda: Ruled([], rule))

    def test_operators(self):
        for other in (*STRANGE, 5, HALF, S, Quotient(1, 1), [PAIRS]):
            self.bad(other, lambda: PAIRS + other)
            self.bad(other, lambda: PAIRS - other)
        for other in [*STRANGE, PAIRS, [PAIRS], Poly([1]), Quotient(1, 1)]:
            self.bad(other, lambda: PAIRS * other)
        for other in STRANGE:
            self.bad(other, lambda: other * PAIRS)

    def test_places(self):
        for call in (PAIRS.item, PAIRS.beginning, PAIRS.later):
            self.each_bad(call, [*STRANGE, -1, 1001, Ratio(2), 10 ** 9])
        PAIRS.later(1000)

    def test_methods(self):
        self.each_bad(PAIRS.behind, NO_LISTS)
        self.each_bad(lambda value: PAIRS.behind([1, value, "x"]))
        self.each_bad(PAIRS.divided, [*STRANGE, 2, HALF, Poly([]), Quotient(1, 1)])
        self.each_bad(lambda value: PAIRS.thinned(value, "x"), [*STRANGE, 1, 61, -2])
        self.each_bad(lambda value: PAIRS.thinned(3, value), [*STRANGE, 3, -1])
        self.each_bad(PAIRS.stretched, [*STRANGE, 1, 61, 0])
        self.each_bad(PAIRS.held, [*STRANGE, 1, 61, 0])

    def test_functions(self):
        self.each_bad(woven_of, NO_LISTS)
        self.each_bad(lambda value: woven_of([PAIRS, value, "x"]))
        self.each_bad(lambda value: woven_of([value]))
        for streams in ([], [PAIRS], [PAIRS] * 61, ()):
            self.bad(streams, lambda: woven_of(streams))
        self.each_bad(ruled_of, [*STRANGE, PAIRS, S, 3])
        self.each_bad(lambda value: first_apart(value, "x"), [*STRANGE, 3, S])
        self.each_bad(lambda value: first_apart(PAIRS, value), [*STRANGE, 3, S])

    def test_nothing_is_changed(self):
        begun, ahead, streams = [1, HALF], [2], [PAIRS, ONES]
        stream = Ruled(begun, S * S - 3)
        begun.append(7)
        self.assertEqual(stream.begun, (Ratio(1), HALF))
        stream.behind(ahead)
        woven_of(streams)
        self.assertEqual((ahead, len(streams)), ([2], 2))
        told = stream.beginning(3)
        told.append(1)
        self.assertEqual(stream.beginning(3), [Ratio(1), HALF, Ratio(3)])
        stream + PAIRS, stream * 2, -stream, stream.thinned(2, 0), stream.later(3)
        self.assertEqual((stream.begun, stream.rule), ((Ratio(1), HALF), S * S - 3))
