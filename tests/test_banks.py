"""[41], [100]: banks of filters, and streams given back by them."""

import random
import unittest

from allstreams.banks import given_back, join_bank, second_half, split_bank
from allstreams.energy import keeps_energy
from allstreams.errors import NotUndone
from allstreams.polys import Poly
from allstreams.quotients import Quotient
from allstreams.ratios import Ratio
from allstreams.undoing import least_late
from tests.helpers import STRANGE, Case, random_poly, random_ratio

Z = Poly([0, 1])


def poly(*parts):
    return Quotient(Poly(list(parts)), 1)


HAAR = [poly(1, 1), poly(1, -1)]


def filtered(one, items):
    """The stream behind a filter, by its parts."""
    parts = one.first(len(items))
    return [total([parts[back] * items[place - back] for back in range(place + 1)]) for place in range(len(items))]


def total(items):
    whole = Ratio(0)
    for item in items:
        whole = whole + item
    return whole


def random_filter(chance):
    bottom = Poly([1, *[chance.randint(-1, 1) for _ in range(chance.choice([0, 0, 1, 2]))]])
    return Quotient(random_poly(chance, chance.randint(0, 5), 3), bottom)


def by_turns(items, many):
    return [items[place:place + many] for place in range(0, len(items), many)]


class Banks(Case):
    def test_lanes(self):
        one = split_bank([poly(1), poly(2), poly(0)], 4)
        self.assertEqual([one.ins, one.outs, one.size()], [(4,), (1, 1, 1), 0])
        other = join_bank([poly(1), poly(2), poly(0)], 4)
        self.assertEqual([other.ins, other.outs], [(1, 1, 1), (4,)])
        self.assertEqual(other.run([[1, 10, 100]]), [[Ratio(21), Ratio(0), Ratio(0), Ratio(0)]])

    def test_split_and_join_by_their_words(self):
        chance = random.Random(181)
        for _ in range(60):
            many, width = chance.randint(2, 4), chance.randint(1, 4)
            filters = [random_filter(chance) for _ in range(width)]
            items = [random_ratio(chance) for _ in range(5 * many)]
            split, join = split_bank(filters, many), join_bank(filters, many)
            self.assertEqual([split, join], [split.at_rest(), join.at_rest()])
            self.assertEqual([split.ins, split.outs], [(many,), (1,) * width])
            self.assertEqual([join.ins, join.outs], [(1,) * width, (many,)])
            behind = [filtered(one, items) for one in filters]
            self.assertEqual(split.run(by_turns(items, many)),
                             [[stream[many * turn] for stream in behind] for turn in range(5)])
            given = [[random_ratio(chance) for _ in range(width)] for _ in range(5)]
            spread = [[given[place // many][lane] if place % many == 0 else Ratio(0) for place in range(5 * many)]
                      for lane in range(width)]
            behind = [filtered(one, stream) for one, stream in zip(filters, spread)]
            expected = [total([stream[place] for stream in behind]) for place in range(5 * many)]
            self.assertEqual(join.run(given), by_turns(expected, many))

    def test_given_back(self):
        self.assertEqual(given_back([poly(1), poly(0, 1)], [poly(0, 1), poly(1)], 2), 1)
        self.assertEqual(given_back([poly(1), poly(0, 1)], [poly(0, 0, 1), poly(0, 1)], 2), 2)
        # Items ahead, which the second filter keeps, would have to be known ahead.
        self.assertIsNone(given_back([poly(1), poly(0, 1)], [poly(1), poly(1)], 2))
        half = [poly(Ratio(1, 2), Ratio(1, 2)), poly(Ratio(-1, 2), Ratio(1, 2))]
        self.assertEqual(given_back(HAAR, half, 2), 1)
        self.assertIsNone(given_back(HAAR, HAAR, 2))
        self.assertIsNone(given_back(HAAR, [one * 2 for one in half], 2))
        self.assertIsNone(given_back([poly(1)], [poly(1)], 2))
        self.assertIsNone(given_back([poly(0)], [poly(0)], 3))
        for late in range(6):
            self.assertEqual(given_back(HAAR, [one * Poly([1]).raised(late) for one in half], 2), 1 + late)
        many = [poly(*[0] * place, 1) for place in range(5)]
        self.assertEqual(given_back(many, many[::-1], 5), 4)
        self.assertIsNone(given_back(many, many[::-1], 4))

    def test_items_ahead_are_not_known(self):
        """The last items of a turn come later than what the split tells of the turn: so none is late by 0."""
        self.assertEqual(given_back([poly(1), poly(0, 1)], [poly(0, 0, 1), poly(0, 1)], 2), 2)
        self.assertIsNone(given_back([poly(1), poly(0, 1), poly(0)], [poly(1), poly(0, 1), poly(7)], 2))
        self.assertIsNone(least_late(split_bank([poly(1)], 2)))
        for many in (2, 3, 4):
            splits = [poly(*[0] * place, 1) for place in range(many)]
            self.raises(NotUndone, lambda: second_half(splits, many, 0))
            self.assertEqual(given_back(splits, splits[::-1], many), many - 1)

    def test_given_back_as_it_is_run(self):
        chance = random.Random(182)
        found = 0
        for _ in range(60):
            many = chance.randint(2, 3)
            splits = [random_filter(chance) for _ in range(chance.randint(1, 4))]
            late = chance.randint(0, 3)
            least = least_late(split_bank(splits, many))
            if least is None or least > late:
                self.raises(NotUndone, lambda: second_half(splits, many, late))
                continue
            joins = second_half(splits, many, late)
            found += 1
            self.assertEqual([type(joins), len(joins), {type(one) for one in joins}], [tuple, len(splits), {Quotient}])
            more = chance.randint(0, 2)
            joins = [one * Poly([1]).raised(more) for one in joins]
            self.assertEqual(given_back(splits, joins, many), many * late + more)
            items = [random_ratio(chance) for _ in range(6 * many)]
            told = join_bank(joins, many).run(split_bank(splits, many).run(by_turns(items, many)))
            back = [item for turn in told for item in turn]
            self.assertEqual(back, ([Ratio(0)] * (many * late + more) + items)[:6 * many])
            other = list(joins)
            other[0] = other[0] + Quotient(Z * Z, 1)
            self.assertEqual(given_back(splits, other, many) is None, splits[0] != poly(0))
        self.assertGreater(found, 15)

    def test_second_half_with_loops(self):
        loop = Quotient(1, 1 - Z * Ratio(1, 2))
        filters = [loop, loop * Z]
        half = second_half(filters, 2, 1)
        self.assertEqual(given_back(filters, half, 2), 2)
        for late in (1, 3):
            self.assertEqual(given_back(HAAR, second_half(HAAR, 2, late), 2), 2 * late)
        self.raises(NotUndone, lambda: second_half(HAAR, 2, 0))
        self.raises(NotUndone, lambda: second_half([poly(1, 1)], 2, 60))
        self.raises(NotUndone, lambda: second_half([poly(1, 1), poly(2, 2)], 2, 60))

    def test_of_the_document(self):
        filters = [poly(Ratio(3, 5), Ratio(4, 5)), poly(Ratio(4, 5), Ratio(-3, 5))]
        self.assertTrue(keeps_energy(split_bank(filters, 2)))
        half = second_half(filters, 2, 1)
        self.assertEqual(half, (poly(0, Ratio(4, 5), Ratio(3, 5)), poly(0, Ratio(-3, 5), Ratio(4, 5))))

    def test_wrong(self):
        for call in (split_bank, join_bank, lambda filters, many: second_half(filters, many, 1),
                     lambda filters, many: given_back(filters, HAAR, many)):
            self.each_bad(lambda value: call(value, 2), [None, 1, "x", [], (), {}, True, 1.0, poly(1), object()])
            self.each_bad(lambda value: call(HAAR, value), [*STRANGE, 1, 0, -2])
            for item in (None, 1, Z, Ratio(1), "x", True, [poly(1)]):
                self.bad(item, lambda: call([poly(1), item, None], 2))
            self.bad(None, lambda: call(None, 1))
            self.bad(1, lambda: call(tuple(HAAR), 1))
        self.each_bad(lambda value: second_half(HAAR, 2, value), [*STRANGE, -1])
        self.bad(1, lambda: second_half(HAAR, 1, -1))
        for joins in ([poly(1)], HAAR + HAAR, []):
            self.bad(joins, lambda: given_back(HAAR, joins, 1))
        self.bad(7, lambda: given_back(HAAR, [poly(1), 7], 2))

    def test_nothing_is_changed(self):
        filters = list(HAAR)
        self.assertEqual([second_half(filters, 2, 1), split_bank(filters, 3)],
                         [second_half(tuple(filters), 2, 1), split_bank(filters, 3)])
        self.assertEqual(filters, HAAR)

    def test_60_filters(self):
        many = [poly(*[0] * place, 1) for place in range(60)]
        half = second_half(many, 60, 1)
        self.assertEqual(given_back(many, half, 60), 60)
        self.assertEqual(split_bank(many, 60).outs, (1,) * 60)


if __name__ == "__main__":
    unittest.main()
