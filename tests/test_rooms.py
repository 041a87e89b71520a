"""[30], [89]: the least room of a text, a plan of it, and its paper."""

import random
import unittest

from allstreams.errors import StandsStill, TooMany, Unpaced
from allstreams.paces import paces, steps_of_turn
from allstreams.plans import fillings, first_plan, is_plan
from allstreams.reader import read_texts
from allstreams.rooms import least_room, room_paper
from allstreams.running import Run
from tests.helpers import Case
from tests.random_texts import living_text
from tests.test_needs import LONG, ODD, one_text
from tests.test_plans import HALVES, STUCK, all_plans


def reached(text, room):
    """The standings that a run can reach without a filling as great as the room."""
    found, waiting = {}, [()]
    while waiting:
        plan = waiting.pop()
        run = Run(text)
        for name in text.ins:
            run.give(name, [0] * paces(text)[name])
        for box in plan:
            run.step(box)
        standing = tuple(run.steps(box + 1) for box in range(len(text.statements)))
        if standing in found or sum(run.waiting().values()) >= room:
            continue
        found[standing] = True
        for box, many in enumerate(steps_of_turn(text), start=1):
            if run.steps(box) < many and run.can_step(box):
                waiting.append((*plan, box))
    return sorted(found)


class Rooms(Case):
    def test_one_plan(self):
        text = one_text("y = a\na = u")
        self.assertEqual(least_room(text), (1, [2, 1]))
        self.assertEqual(room_paper(text), [])

    def test_empty_paper(self):
        """The filling at the beginning is as great already."""
        text = one_text("y = weave a b\na, b = deal u")
        self.assertEqual(least_room(text)[0], 2)
        self.assertEqual(room_paper(text), [])

    def test_of_the_document(self):
        room, plan = least_room(HALVES)
        self.assertEqual((room, max(fillings(HALVES, plan))), (3, 3))
        self.assertEqual(room_paper(HALVES), [(0, 0, 0), (1, 0, 0)])

    def test_a_plan_that_is_not_the_first_one(self):
        # The first plan makes all of h at once, and needs the room 3.
        text = one_text("h = hold 3 u\ny = h")
        room, plan = least_room(text)
        self.assertEqual((room, plan), (1, [1, 2, 1, 2, 1, 2]))
        self.assertEqual([max(fillings(text, first_plan(text))), room_paper(text)], [3, []])

    def test_no_ins(self):
        text = read_texts("text a (-> y)\ns = source [1]\ny = s")[0]
        self.assertEqual(least_room(text), (1, [1, 2]))
        self.assertEqual(room_paper(text), [(0, 0)])
        alone = read_texts("text a (-> y)\ny = source [1]")[0]
        self.assertEqual([least_room(alone), room_paper(alone)], [(0, [1]), []])

    def test_against_all_plans(self):
        chance = random.Random(51)
        asked, papers = 0, 0
        while asked < 150:
            text, _ = living_text(chance, range(1, 6))
            if sum(steps_of_turn(text)) > 7:
                continue
            asked += 1
            least = min(max(fillings(text, plan)) for plan in all_plans(text))
            room, plan = least_room(text)
            self.assertEqual(room, least)
            self.assertIs(type(plan), list)
            self.assertTrue(is_plan(text, plan))
            self.assertEqual(max(fillings(text, plan)), least)
            paper = room_paper(text)
            self.assertEqual(paper, reached(text, least))
            papers += len(paper) > 1
        self.assertGreater(papers, 2)

    def test_papers_of_greater_texts(self):
        chance = random.Random(52)
        asked = 0
        while asked < 25:
            text, _ = living_text(chance, range(3, 9))
            try:
                room, plan = least_room(text)
            except TooMany:
                continue
            asked += 1
            self.assertEqual(max(fillings(text, plan)), room)
            self.assertEqual(room_paper(text), reached(text, room))
            self.assertEqual([least_room(text), room_paper(text)], [(room, plan), room_paper(text)])

    def test_2000_standings(self):
        # Steps of 1, 1, 1, 1 and 4, 4, 4; then of 2, 22, 28.
        lines = "h = hold 4 u\nk = hold 4 u\ny = hold 4 u\na = u\nb = u\nc = u\nd = u"
        text = one_text(lines)
        self.assertEqual(sorted(steps_of_turn(text)), [1, 1, 1, 1, 4, 4, 4])
        room, plan = least_room(text)
        self.assertEqual(max(fillings(text, plan)), room)
        more = one_text("a = hold 22 u\ny = hold 28 u\nz = hold 2 u")
        self.assertEqual(steps_of_turn(more), (22, 28, 2))
        for call in (least_room, room_paper):
            self.assertIsNotNone(call(text))
            self.raises(TooMany, lambda: call(more), most=2000)
        self.assertEqual(3 * 23 * 29, 2001)

    def test_errors(self):
        many = "\n".join(f"s{number} = u" for number in range(20))
        stuck = one_text(f"{many}\ny = y + u")
        for call in (least_room, room_paper):
            self.each_bad(call)
            self.raises(Unpaced, lambda: call(ODD), at=2)
            self.raises(TooMany, lambda: call(LONG), most=200)
            self.raises(StandsStill, lambda: call(STUCK))
            self.raises(StandsStill, lambda: call(stuck))
            self.raises(TooMany, lambda: call(one_text(f"{many}\ny = u")), most=2000)

    def test_results_are_new(self):
        least_room(HALVES)[1].append(1)
        room_paper(HALVES).append(1)
        self.assertEqual([len(least_room(HALVES)[1]), len(room_paper(HALVES))], [6, 2])


if __name__ == "__main__":
    unittest.main()
