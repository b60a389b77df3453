"""Points [14] and [16], and of point [4] what it says of the least beginnings."""

import unittest

from trudge.floors import is_floor
from trudge.highest import highest
from trudge.lands import turned_land
from trudge.least import least, trips_on
from trudge.trips import arrival, end_of
from walking import (
    chain_of_fillings, drawn_tasks, every_table, great_tasks, is_floor_by_words, least_by_states, level_behind,
    place_behind, small_lands,
)

FULL = 10 ** 20
FAR = 10 ** 18


class LeastTest(unittest.TestCase):
    def assert_shown(self, land, store, goal):
        """The told levels from both sides: by trips that come through from them, and by a floor."""
        told = least(land, store, goal)
        trips = trips_on(land, store, goal)
        self.assertEqual(len(trips), land[0])
        for place, level in enumerate(told):
            if level is None:
                self.assertIsNone(trips[place])
                continue
            end, trip = trips[place]
            self.assertEqual(place_behind(land, place, trip), end)
            self.assertGreaterEqual(level_behind(land, store, level, trip), goal[end])
            self.assertEqual(end_of(land, place, trip), end)
            self.assertGreaterEqual(arrival(land, store, place, level, trip), goal[end])
            self.assertLessEqual(len(trip), 80)
            self.assertLessEqual(max([len(part[0]) for part in trip], default=0), 40)
        self.assertTrue(is_floor_by_words(land, store, goal, told), (land, store, goal))
        self.assertIs(is_floor(land, store, goal, told), True)
        return told

    def test_no_goal(self):
        land = (2, [(0, 1, 5), (1, 0, 5)])
        self.assertEqual(least(land, 10, [None, None]), [None, None])
        self.assertEqual(trips_on(land, 10, [None, None]), [None, None])

    def test_no_ways(self):
        self.assertEqual(least((3, []), 10, [4, None, 0]), [4, None, 0])
        self.assertEqual(trips_on((3, []), 10, [4, None, 0]), [(0, []), None, (2, [])])

    def test_told_ones(self):
        self.assertEqual(least((2, [(0, 1, -4)]), 10, [None, 6]), [10, 6])
        self.assertEqual(least((2, [(0, 1, -4)]), 10, [None, 7]), [None, 7])
        self.assertEqual(least((2, [(0, 1, 4)]), 10, [None, 7]), [3, 7])
        self.assertEqual(least((2, [(0, 1, 4)]), 10, [None, 3]), [0, 3])
        self.assertEqual(least((2, [(0, 1, 14)]), 10, [None, 10]), [0, 10])
        self.assertEqual(least((2, [(0, 1, -4)]), 10, [3, 0]), [3, 0])
        self.assertEqual(least((1, [(0, 0, 1)]), 10, [9]), [0])
        self.assertEqual(least((1, [(0, 0, -1)]), 10, [9]), [9])

    def test_told_trips(self):
        self.assertEqual(trips_on((2, [(0, 1, -4)]), 10, [None, 6]), [(1, [([0], 1)]), (1, [])])
        self.assertEqual(trips_on((3, [(0, 1, -4), (1, 2, -1)]), 10, [None, None, 2])[0], (2, [([0, 1], 1)]))

    def test_a_round_that_must_be_begun(self):
        land = (3, [(0, 1, -50), (1, 0, 51), (0, 2, -FULL)])
        self.assertEqual(self.assert_shown(land, FULL, [None, None, 0]), [50, 0, 0])
        self.assertEqual(self.assert_shown(land, FULL, [None, None, 1]), [None, None, 1])

    def test_one_filling_behind_another(self):
        for many in range(1, 13):
            for store in (1, 7, FAR):
                goal = [None] * (many - 1) + [store]
                self.assertEqual(self.assert_shown(chain_of_fillings(many, store), store, goal), [0] * many)

    def test_store_of_nothing(self):
        land = (3, [(0, 1, 5), (1, 0, 0), (1, 2, -1)])
        self.assertEqual(self.assert_shown(land, 0, [0, None, None]), [0, 0, None])
        self.assertEqual(self.assert_shown(land, 0, [None, None, 0]), [None, None, 0])

    def test_every_small_land_against_all_walks(self):
        for land in small_lands(2, 2, 2):
            for store in (0, 1, 2, 3):
                for goal in every_table(2, store):
                    self.assertEqual(least(land, store, goal), least_by_states(land, store, goal),
                                     (land, store, goal))

    def test_drawn_lands_against_all_walks(self):
        for seed, reach in enumerate((1, 2, 4, 9)):
            for land, store, goal in drawn_tasks(seed + 20, 1000, 6, 14, reach, range(13)):
                self.assertEqual(self.assert_shown(land, store, goal), least_by_states(land, store, goal),
                                 (land, store, goal))

    def test_great_lands_against_all_walks(self):
        for land, store, goal in drawn_tasks(29, 200, 12, 40, 5, (8, 20, 30)):
            self.assertEqual(self.assert_shown(land, store, goal), least_by_states(land, store, goal),
                             (land, store, goal))

    def test_great_lands_and_stores_from_both_sides(self):
        found = 0
        for land, store, goal in great_tasks(5, 250):
            told = self.assert_shown(land, store, goal)
            found += sum(told[place] is not None and told[place] != goal[place] for place in range(land[0]))
        self.assertGreater(found, 1000)

    def test_the_highest_levels_of_the_turned_land(self):
        for land, store, goal in great_tasks(6, 100):
            base = [None if level is None else store - level for level in goal]
            there = highest(turned_land(land), store, base)
            self.assertEqual(least(land, store, goal), [None if level is None else store - level for level in there])

    def test_from_one_less_the_highest_levels_miss_the_goal(self):
        for land, store, goal in great_tasks(7, 20):
            for place, level in enumerate(least(land, store, goal)):
                if level is not None:
                    self.assertTrue(self.comes_through(land, store, place, level, goal))
                    less = level - 1
                else:
                    less = store
                if less >= 0:
                    self.assertFalse(self.comes_through(land, store, place, less, goal))

    def comes_through(self, land, store, place, level, goal):
        told = highest(land, store, [level if here == place else None for here in range(land[0])])
        return any(one is not None and other is not None and one >= other for one, other in zip(told, goal))

    def test_somewhat_beyond_the_bounds(self):
        goal = [None] * 13 + [10 ** 21]
        self.assertEqual(self.assert_shown(chain_of_fillings(14, 10 ** 21), 10 ** 21, goal), [0] * 14)


if __name__ == "__main__":
    unittest.main()
