"""Points [22] and [23], and of point [4] what it says of plans."""

import itertools
import random
import unittest

from trudge.errors import BadPlan
from trudge.plans import cheapest, paid
from trudge.prices import costs_to
from walking import price_tasks, small_lands, steps_on

FAR = 10 ** 18
LAND = (3, [(0, 1, -2), (1, 0, 3), (1, 2, -5), (2, 2, 1)])
PRICES = [4, None, 0]


def paid_by_words(land, store, prices, begin, plan):
    """(place, level, cost), or the number of the first step that can't be done."""
    place, level = begin
    cost = 0
    for at, (kind, number) in enumerate(plan):
        if kind == "way":
            if not 0 <= number < len(land[1]) or land[1][number][0] != place or level + land[1][number][2] < 0:
                return at
            place, level = land[1][number][1], min(store, level + land[1][number][2])
        else:
            if number < 1 or prices[place] is None or level + number > store:
                return at
            level, cost = level + number, cost + number * prices[place]
    return (place, level, cost)


class PaidTest(unittest.TestCase):
    def assert_refused(self, at, store, begin, plan):
        with self.assertRaises(BadPlan) as caught:
            paid(LAND, store, PRICES, begin, plan)
        self.assertEqual(caught.exception.at, at, plan)
        self.assertIs(caught.exception.at.__class__, int)

    def test_no_steps(self):
        self.assertEqual(paid(LAND, 10, PRICES, (1, 4), []), (1, 4, 0))
        self.assertEqual(paid((1, []), 0, [None], (0, 0), []), (0, 0, 0))

    def test_ways(self):
        self.assertEqual(paid(LAND, 10, PRICES, (0, 2), [("way", 0)]), (1, 0, 0))
        self.assertEqual(paid(LAND, 10, PRICES, (1, 9), [("way", 1)]), (0, 10, 0))
        self.assertEqual(paid(LAND, 10, PRICES, (0, 9), [("way", 0), ("way", 2), ("way", 3)]), (2, 3, 0))

    def test_buying(self):
        self.assertEqual(paid(LAND, 10, PRICES, (0, 2), [("buy", 1)]), (0, 3, 4))
        self.assertEqual(paid(LAND, 10, PRICES, (0, 2), [("buy", 8)]), (0, 10, 32))
        self.assertEqual(paid(LAND, 10, PRICES, (2, 0), [("buy", 10)]), (2, 10, 0))
        self.assertEqual(paid(LAND, 10, PRICES, (0, 0), [("buy", 3), ("buy", 4), ("way", 0)]), (1, 5, 28))
        self.assertEqual(paid((1, []), 40, [FAR], (0, 0), [("buy", 40)]), (0, 40, 40 * FAR))

    def test_a_way_that_is_none(self):
        for number in (-1, -4, 4, 5, 10 ** 59, -10 ** 59):
            self.assert_refused(0, 10, (0, 5), [("way", number)])
            self.assert_refused(2, 10, (2, 5), [("way", 3), ("buy", 1), ("way", number), ("way", number)])

    def test_a_way_that_begins_elsewhere(self):
        self.assert_refused(0, 10, (0, 9), [("way", 1)])
        self.assert_refused(1, 10, (0, 9), [("way", 0), ("way", 0)])
        self.assert_refused(2, 10, (0, 9), [("way", 0), ("way", 2), ("way", 2), ("way", 3)])

    def test_a_way_that_takes_too_much(self):
        self.assert_refused(0, 10, (0, 1), [("way", 0)])
        self.assert_refused(1, 10, (0, 6), [("way", 0), ("way", 2)])
        self.assertEqual(paid(LAND, 10, PRICES, (0, 7), [("way", 0), ("way", 2)]), (2, 0, 0))

    def test_a_place_that_sells_nothing(self):
        self.assert_refused(0, 10, (1, 1), [("buy", 1)])
        self.assert_refused(1, 10, (0, 9), [("way", 0), ("buy", 1)])

    def test_more_than_the_store(self):
        self.assert_refused(0, 10, (0, 10), [("buy", 1)])
        self.assert_refused(0, 10, (0, 2), [("buy", 9)])
        self.assert_refused(1, 10, (0, 2), [("buy", 8), ("buy", 1)])
        self.assert_refused(0, 10, (2, 0), [("buy", 10 ** 59)])
        self.assert_refused(0, 0, (2, 0), [("buy", 1)])

    def test_buying_nothing_or_less(self):
        for many in (0, -1, -5, -10 ** 59):
            self.assert_refused(0, 10, (0, 5), [("buy", many)])
            self.assert_refused(1, 10, (0, 5), [("buy", 1), ("buy", many)])

    def test_the_first_of_several(self):
        self.assert_refused(1, 10, (0, 5), [("buy", 1), ("buy", 0), ("way", 9), ("buy", 0)])

    def test_a_way_gives_more_than_the_store_but_none_buys_it(self):
        self.assertEqual(paid((1, [(0, 0, FAR)]), 7, [1], (0, 5), [("way", 0)]), (0, 7, 0))
        with self.assertRaises(BadPlan):
            paid((1, [(0, 0, FAR)]), 7, [1], (0, 5), [("buy", 3)])

    def test_drawn_plans(self):
        draw = random.Random(1)
        refused = 0
        for land, store, prices, goal in price_tasks(1, 3000, 5, 10, 3, (0, 4, 9, 40), 9):
            begin = spot = (draw.randrange(land[0]), draw.randint(0, store))
            plan = []
            for number in range(draw.randint(0, 12)):
                steps = list(steps_on(land, store, prices, *spot))
                if not steps or draw.random() < 0.05:
                    plan.append((draw.choice(("way", "buy")), draw.randint(-2, 10)))
                else:
                    step = draw.choice(steps)
                    plan.append(step[0])
                    spot = step[1:3]
            expected = paid_by_words(land, store, prices, begin, plan)
            if isinstance(expected, int):
                refused += 1
                with self.assertRaises(BadPlan) as caught:
                    paid(land, store, prices, begin, plan)
                self.assertEqual(caught.exception.at, expected, (land, store, prices, begin, plan))
            else:
                self.assertEqual(paid(land, store, prices, begin, plan), expected)
        self.assertTrue(300 < refused < 2700, refused)

    def test_a_great_land_with_a_great_store(self):
        # What bounds the store elsewhere doesn't bound it here.
        land = (12, [(place % 12, (place + 1) % 12, -1) for place in range(40)])
        plan = [("buy", 40)] + [("way", number) for number in range(40)]
        self.assertEqual(paid(land, 40, [FAR] * 12, (0, 0), plan), (4, 0, 40 * FAR))
        self.assertEqual(paid(land, 40, [FAR] * 12, (0, 0), plan + [("buy", 1)] * 40), (4, 40, 80 * FAR))


class CheapestTest(unittest.TestCase):
    def assert_paid(self, land, store, prices, begin, goal):
        """The told plan is done with paid and without, and costs_to tells its cost."""
        told = cheapest(land, store, prices, begin, goal)
        least = costs_to(land, store, prices, goal)[begin[0]][begin[1]]
        if told is None:
            self.assertIsNone(least, (land, store, prices, begin, goal))
            return None
        cost, plan = told
        self.assertEqual(cost, least)
        behind = paid(land, store, prices, begin, plan)
        self.assertEqual(behind, paid_by_words(land, store, prices, begin, plan))
        self.assertEqual((behind[0], behind[2]), (goal[0], cost), (land, store, prices, begin, goal))
        self.assertGreaterEqual(behind[1], goal[1])
        self.assertEqual([step.__class__ for step in plan], [tuple] * len(plan))
        return told

    def test_nothing_to_do(self):
        self.assertEqual(cheapest(LAND, 10, PRICES, (0, 5), (0, 5)), (0, []))
        self.assertEqual(cheapest(LAND, 10, PRICES, (1, 6), (1, 5)), (0, []))
        self.assertIsNone(cheapest((2, []), 10, [0, 0], (0, 5), (1, 0)))
        self.assertIsNone(cheapest((1, []), 10, [None], (0, 5), (0, 6)))

    def test_told_ones(self):
        self.assertEqual(cheapest(LAND, 10, PRICES, (0, 2), (0, 5)), (0, [("way", 0), ("way", 1)] * 3))
        self.assertEqual(cheapest(LAND, 10, PRICES, (0, 1), (0, 2)), (4, [("buy", 1)]))
        self.assertEqual(cheapest((1, []), 10, [4], (0, 2), (0, 5)), (12, [("buy", 3)]))
        self.assertEqual(cheapest((2, [(0, 1, -3)]), 10, [4, None], (0, 1), (1, 0)), (8, [("buy", 2), ("way", 0)]))

    def test_a_round_that_costs_nothing_is_not_walked_for_ever(self):
        land = (3, [(0, 1, 0), (1, 0, 0), (0, 0, 0), (1, 2, -3)])
        self.assertEqual(self.assert_paid(land, 3, [0, 0, None], (0, 0), (2, 0))[0], 0)
        self.assertEqual(self.assert_paid(land, 3, [5, 2, None], (0, 0), (2, 0))[0], 6)

    def test_a_far_place_that_sells_cheaper(self):
        land = (3, [(0, 1, -1), (1, 0, -1), (0, 2, -4)])
        cost, plan = self.assert_paid(land, 6, [10, 1, None], (0, 0), (2, 0))
        self.assertEqual((cost, plan), (15, [("buy", 1), ("way", 0), ("buy", 5), ("way", 1), ("way", 2)]))

    def test_every_small_land(self):
        for land in small_lands(2, 2, 1):
            for prices, begin in itertools.product(([None, None], [0, 2], [3, None]), ((0, 0), (0, 2), (1, 1))):
                for goal in ((0, 1), (1, 0), (1, 2)):
                    self.assert_paid(land, 2, prices, begin, goal)

    def test_drawn_lands(self):
        draw = random.Random(2)
        found = 0
        for reach, greatest in ((1, 2), (3, 9), (6, FAR)):
            for task in price_tasks(reach, 300, 6, 15, reach, range(13), greatest):
                land, store, prices, goal = task
                for begin in ((draw.randrange(land[0]), 0), (draw.randrange(land[0]), draw.randint(0, store))):
                    told = self.assert_paid(land, store, prices, begin, goal)
                    found += told is not None and told[0] > 0
        self.assertGreater(found, 100)

    def test_great_lands(self):
        draw = random.Random(3)
        for reach in (1, 5, 13, FAR):
            for tasks in (price_tasks(reach, 15, 6, 15, reach, (40,), FAR),
                          price_tasks(reach, 15, 12, 40, reach, (12,), FAR)):
                for land, store, prices, goal in tasks:
                    self.assert_paid(land, store, prices, (draw.randrange(land[0]), draw.randint(0, store)), goal)

    def test_a_long_plan(self):
        ways = [(place, (place + 1) % 6, 1 if place == 0 else 0) for place in range(6)]
        cost, plan = self.assert_paid((6, ways[::-1]), 40, [FAR] + [None] * 5, (1, 0), (0, 40))
        self.assertEqual((cost, len(plan)), (0, 5 + 40 * 6))


if __name__ == "__main__":
    unittest.main()
