"""[2], [3], [4], [80]: what deal, weave, thin, stretch and hold make of first items."""

import random
from fractions import Fraction

from allstreams.lanes import dealt, held, stretched, thinned, woven
from allstreams.polys import Poly
from allstreams.ratios import Ratio
from tests.helpers import Case, STRANGE

HALF = Ratio(1, 2)
NO_LISTS = [value for value in STRANGE if not isinstance(value, (list, tuple))]
NO_RATIOS = [value for value in STRANGE if not isinstance(value, Ratio)]
NO_MANY = [*STRANGE, 1, 0, -2, 61, Ratio(2), 2.0]


def ratios(items):
    return [Ratio(item) for item in items]


class Lanes(Case):
    def test_dealt(self):
        self.assertEqual(dealt(items=[1, HALF, 3, 4, 5], many=2), [ratios([1, 3, 5]), [HALF, Ratio(4)]])
        self.assertEqual(dealt((1, 2), 3), [ratios([1]), ratios([2]), []])
        self.assertEqual(dealt([], 60), [[]] * 60)

    def test_woven(self):
        self.assertEqual(woven(lists=[[1, 3], [2, 4]]), ratios([1, 2, 3, 4]))
        self.assertEqual(woven([[1, 3], [2]]), ratios([1, 2, 3]))
        self.assertEqual(woven([[1], [2, 3, 4]]), ratios([1, 2]))
        self.assertEqual(woven([[], [2]]), [])
        self.assertEqual(woven([[1], []]), ratios([1]))
        self.assertEqual(woven(((1, 2), [3, 4, 5], (6,))), ratios([1, 3, 6, 2, 4]))
        self.assertEqual(woven([[number] for number in range(60)]), ratios(range(60)))

    def test_woven_is_told_item_by_item(self):
        chance = random.Random(80)
        for _ in range(200):
            lists = [list(range(chance.randint(0, 5))) for _ in range(chance.randint(2, 5))]
            expected, place = [], 0
            while place // len(lists) < len(lists[place % len(lists)]):
                expected.append(lists[place % len(lists)][place // len(lists)])
                place += 1
            self.assertEqual(woven(lists), ratios(expected))

    def test_thinned(self):
        for many in (2, 3, 60):
            for rest in (0, 1, many - 1):
                items = list(range(2 * many + 1))
                self.assertEqual(thinned(items=items, many=many, rest=rest), ratios(items[rest::many]))
        self.assertEqual(thinned([], 2, 1), [])

    def test_stretched(self):
        self.assertEqual(stretched(items=[1, HALF], many=3), [Ratio(1), Ratio(0), Ratio(0), HALF, Ratio(0), Ratio(0)])
        self.assertEqual(stretched([], 2), [])
        self.assertEqual(len(stretched([1, 2], 60)), 120)

    def test_held(self):
        self.assertEqual(held(items=(1, HALF), many=2), [Ratio(1), Ratio(1), HALF, HALF])
        self.assertEqual(held([], 2), [])
        self.assertEqual(held([5], 60), [Ratio(5)] * 60)

    def test_dealing_and_weaving(self):
        items = ratios(range(17))
        for many in (2, 3, 5, 17, 18):
            self.assertEqual(woven(dealt(items, many)), items)
            self.assertEqual([thinned(items, many, rest) for rest in range(many)], dealt(items, many))
            self.assertEqual(thinned(held(items, many), many, many - 1), items)
            self.assertEqual(thinned(stretched(items, many), many, 0), items)

    def test_what_is_told_is_new(self):
        items, lists = ratios([1, 2]), [ratios([1, 2]), [3]]
        for told in (*dealt(items, 2), woven(lists), thinned(items, 2, 0), stretched(items, 2), held(items, 2)):
            self.assertEqual([type(told), {type(item) for item in told}], [list, {Ratio}])
            told.append(None)
        self.assertEqual([items, lists], [ratios([1, 2]), [ratios([1, 2]), [3]]])

    def test_wrong_items(self):
        calls = [
            lambda items: dealt(items, "x"), lambda items: thinned(items, "x", "y"), lambda items: stretched(items, "x"),
            lambda items: held(items, "x"), lambda items: dealt(items, 2),
        ]
        for call in calls:
            self.each_bad(call, NO_LISTS)
            self.each_bad(lambda value: call([1, value, "x"]), NO_RATIOS)
            self.bad("x", lambda: call([1, "x", None]))

    def test_wrong_many(self):
        self.each_bad(lambda value: dealt([1], value), NO_MANY)
        self.each_bad(lambda value: thinned([1], value, "x"), NO_MANY)
        self.each_bad(lambda value: stretched([1], value), NO_MANY)
        self.each_bad(lambda value: held([1], value), NO_MANY)

    def test_wrong_rests(self):
        for many in (2, 5, 60):
            self.each_bad(lambda value: thinned([1, 2], many, value), [*STRANGE, -1, many, many + 1, 1.0])

    def test_wrong_lists(self):
        self.each_bad(woven, NO_LISTS)
        for values in ([], [[1]], [[1]] * 61, (), ([1],)):
            self.bad(values, lambda: woven(values))
        for value in NO_LISTS:
            self.bad(value, lambda: woven([[1], value, "x"]))
            # Also where the lists are too few.
            self.bad(value, lambda: woven([value]))
        for value in NO_RATIOS:
            wrong = [1, value]
            self.bad(wrong, lambda: woven([[1], wrong, None]))
        poly = [Poly([1])]
        self.bad(poly, lambda: woven([[1], poly]))
        fraction = (Fraction(1, 2),)
        self.bad(fraction, lambda: woven([fraction, 3]))
