"""Points [23] and [24], and of point [4] what it says of costs."""

import itertools
import random
import unittest

from trudge.prices import costs_to, is_price_floor
from walking import NO_TABLES, costs_by_plans, is_price_floor_by_words, price_tasks, small_lands

FAR = 10 ** 18

# No table of costs of two places for a store of 1.
NO_COSTS = (
    [[0, 0]], [[0, 0]] * 3, ([0, 0], [0, 0]), [(0, 0), [0, 0]], [[0, 0], (0, 0)], [[0, 0], None], [[0, 0], 0],
    [[0, 0], "00"], [[0, 0], {0: 0, 1: 0}], [[0, 0], [0]], [[0, 0], [0, 0, 0]], [[0], [0, 0]], [[], []],
    [[0, 0], [0, True]], [[False, 0], [0, 0]], [[0, 0], [0, "0"]], [[0, 0], [0, -1]], [[-1, 0], [0, 0]],
    [[0, 0], [[0], 0]], [[0, 0], [(), 0]], [[0, 0], [0, b"0"]], [[0, 0], [0, int]], [[0, 0], [0, {}]],
    [[[0, 0], [0, 0]]], {0: [0, 0], 1: [0, 0]},
)


def great_price_tasks(seed, many):
    """As great as the document lets them be: six places and fifteen ways with a store of 40, or a store of 12."""
    for reach, greatest in ((1, 3), (5, FAR), (13, 10), (FAR, FAR)):
        yield from price_tasks(repr((seed, reach)), many, 6, 15, reach, (13, 39, 40), greatest)
        yield from price_tasks(repr((seed, reach, 12)), many, 12, 40, reach, (5, 11, 12), greatest)


def put_otherwise_by_cost(table):
    for place, row in enumerate(table):
        for level, cost in enumerate(row):
            near = {None, 0, 10 ** 60} | (set() if cost is None else {cost - 1, cost + 1})
            for other in near - {cost}:
                if other is None or other >= 0:
                    yield table[:place] + [row[:level] + [other] + row[level + 1:]] + table[place + 1:]


class CostsToTest(unittest.TestCase):
    def assert_shown(self, land, store, prices, goal):
        told = costs_to(land, store, prices, goal)
        self.assertEqual([len(row) for row in told], [store + 1] * land[0])
        self.assertTrue(is_price_floor_by_words(land, store, prices, goal, told), (land, store, prices, goal))
        self.assertIs(is_price_floor(land, store, prices, goal, told), True)
        return told

    def test_nothing_to_do(self):
        self.assertEqual(costs_to((1, []), 3, [None], (0, 2)), [[None, None, 0, 0]])
        self.assertEqual(costs_to((1, []), 3, [5], (0, 2)), [[10, 5, 0, 0]])
        self.assertEqual(costs_to((1, []), 3, [0], (0, 2)), [[0, 0, 0, 0]])
        self.assertEqual(costs_to((1, []), 0, [5], (0, 0)), [[0]])
        self.assertEqual(costs_to((2, []), 1, [5, 5], (0, 0)), [[0, 0], [None, None]])

    def test_told_ones(self):
        land = (2, [(0, 1, -2)])
        self.assertEqual(costs_to(land, 3, [7, None], (1, 1)), [[21, 14, 7, 0], [None, 0, 0, 0]])
        self.assertEqual(costs_to(land, 3, [7, 2], (1, 1)), [[16, 9, 2, 0], [2, 0, 0, 0]])
        self.assertEqual(costs_to(land, 3, [None, 2], (1, 1)), [[None, None, 2, 0], [2, 0, 0, 0]])
        self.assertEqual(costs_to(land, 1, [0, 0], (1, 0)), [[None, None], [0, 0]])

    def test_a_round_that_costs_nothing(self):
        land = (3, [(0, 1, 0), (1, 0, 0), (1, 2, -1)])
        self.assertEqual(self.assert_shown(land, 1, [0, 3, None], (2, 0)), [[0, 0], [0, 0], [0, 0]])
        self.assertEqual(self.assert_shown(land, 1, [2, 3, None], (2, 0)), [[2, 0], [2, 0], [0, 0]])

    def test_a_far_place_that_sells_cheaper(self):
        land = (3, [(0, 1, -1), (1, 0, -1), (0, 2, -4)])
        self.assertEqual(self.assert_shown(land, 6, [10, 1, None], (2, 0))[0], [15, 5, 4, 3, 0, 0, 0])

    def test_what_goes_beyond_the_store_is_lost(self):
        land = (2, [(0, 1, 9)])
        self.assertEqual(self.assert_shown(land, 2, [None, 4], (1, 2)), [[0, 0, 0], [8, 4, 0]])

    def test_great_prices(self):
        self.assertEqual(costs_to((1, []), 40, [FAR], (0, 40))[0], [FAR * (40 - level) for level in range(41)])

    def test_a_way_that_takes_more_than_the_store(self):
        self.assertEqual(costs_to((2, [(0, 1, -FAR)]), 4, [0, 0], (1, 0))[0], [None] * 5)
        self.assertEqual(costs_to((2, [(0, 1, FAR)]), 4, [0, None], (1, 4))[0], [0] * 5)

    def test_every_small_land_against_all_plans(self):
        for land in small_lands(2, 2, 1):
            for prices in ([None, None], [0, 2], [3, None], [1, 1]):
                for goal in ((0, 1), (1, 0), (1, 2)):
                    self.assertEqual(self.assert_shown(land, 2, prices, goal), costs_by_plans(land, 2, prices, goal),
                                     (land, prices, goal))

    def test_drawn_lands_against_all_plans(self):
        found = 0
        for reach in (1, 3, 6):
            for task in price_tasks(reach, 250, 5, 10, reach, range(9), 9):
                told = self.assert_shown(*task)
                self.assertEqual(told, costs_by_plans(*task), task)
                found += sum(cost is not None and cost > 0 for row in told for cost in row)
        self.assertGreater(found, 500)

    def test_great_lands_against_all_plans(self):
        for task in great_price_tasks(1, 4):
            self.assertEqual(self.assert_shown(*task), costs_by_plans(*task), task)

    def test_great_lands(self):
        for task in great_price_tasks(2, 40):
            self.assert_shown(*task)

    def test_a_long_way_round(self):
        # Each step on of the one place needs a round over all others.
        ways = [(place, (place + 1) % 6, 1 if place == 0 else 0) for place in range(6)]
        for row in (ways, ways[::-1]):
            told = self.assert_shown((6, row), 40, [None] * 5 + [FAR], (3, 40))
            self.assertEqual(told, [[0] * 41] * 6)


class IsPriceFloorTest(unittest.TestCase):
    def test_told_ones(self):
        land = (2, [(0, 1, -2)])
        told = [[16, 9, 2, 0], [2, 0, 0, 0]]
        for table, is_one in (
                (told, True),
                ([[15, 9, 2, 0], [2, 0, 0, 0]], True),
                ([[0] * 4, [0] * 4], True),
                ([[17, 9, 2, 0], [2, 0, 0, 0]], False),
                ([[None, 9, 2, 0], [2, 0, 0, 0]], False),
                ([[16, 9, 2, 1], [2, 0, 0, 0]], False),
                ([[16, 9, 2, None], [2, 0, 0, 0]], False),
                ([[16, 9, 2, 0], [3, 0, 0, 0]], False),
                ([[16, 9, 2, 0], [None, 0, 0, 0]], False),
                ([[16, 9, 2, 0], [1, 0, 0, 0]], False),
                ([[15, 8, 1, 0], [1, 0, 0, 0]], True),
                ([[16, 9, 2, 0], [2, 1, 0, 0]], False),
                ([[16, 9, 2, 0], [2, 0, 0, None]], False)):
            self.assertIs(is_price_floor(land, 3, [7, 2], (1, 1), table), is_one, table)

    def test_none_may_stand_where_nothing_leads_on(self):
        self.assertIs(is_price_floor((2, [(0, 1, -2)]), 1, [0, None], (1, 0), [[None, None], [0, 0]]), True)
        self.assertIs(is_price_floor((2, [(0, 1, -2)]), 1, [0, None], (1, 0), [[5, 5], [0, 0]]), True)
        self.assertIs(is_price_floor((2, [(0, 1, -2)]), 1, [0, None], (1, 0), [[None, 5], [0, 0]]), False)

    def test_the_goals_place_has_just_0(self):
        self.assertIs(is_price_floor((1, []), 2, [None], (0, 1), [[None, 0, 0]]), True)
        self.assertIs(is_price_floor((1, []), 2, [None], (0, 1), [[9, 0, 0]]), True)
        for row in ([0, None, 0], [0, 0, None], [0, 1, 0], [0, 0, 1]):
            self.assertIs(is_price_floor((1, []), 2, [None], (0, 1), [row]), False)

    def test_other_things(self):
        for land in ((2, []), (2, [(0, 1, 0), (1, 0, 0)])):
            self.assertIs(is_price_floor(land, 1, [None, 3], (0, 0), [[0, 0], [0, 0]]), True)
            for number, thing in enumerate(NO_TABLES + NO_COSTS):
                self.assertIs(is_price_floor(land, 1, [None, 3], (0, 0), thing), False, number)

    def test_every_small_table_and_the_greatest_of_price_floors(self):
        rows = [list(row) for row in itertools.product((None, 0, 1, 3), repeat=2)]
        for land in ((2, []), (2, [(0, 1, -1)]), (2, [(0, 1, 1), (1, 0, -1)]), (2, [(0, 0, 1), (1, 0, 0)])):
            for prices, goal in itertools.product(([None, 2], [1, 0], [None, None]), ((0, 1), (1, 0))):
                told = costs_to(land, 1, prices, goal)
                for one, other in itertools.product(rows, repeat=2):
                    is_one = is_price_floor(land, 1, prices, goal, [one, other])
                    self.assertIs(is_one, is_price_floor_by_words(land, 1, prices, goal, [one, other]))
                    if is_one:
                        for floor, cost in zip(one + other, told[0] + told[1]):
                            self.assertTrue(cost is None or floor is not None and floor <= cost)

    def test_one_cost_put_otherwise(self):
        draw = random.Random(3)
        found = [0, 0]
        for task in great_price_tasks(3, 5):
            told = costs_to(*task)
            changed = list(put_otherwise_by_cost(told))
            for table in draw.sample(changed, min(40, len(changed))):
                is_one = is_price_floor(*task, table)
                self.assertIs(is_one, is_price_floor_by_words(*task, table), (task, table))
                found[is_one] += 1
        self.assertGreater(min(found), 50)


if __name__ == "__main__":
    unittest.main()
