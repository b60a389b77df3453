"""Point [12], and of point [4] what it says of the highest levels."""

import unittest

from trudge.highest import highest, trips_to
from trudge.lids import is_lid
from trudge.trips import arrival, end_of
from walking import (
    chain_of_fillings, drawn_tasks, every_table, great_tasks, highest_by_states, is_lid_by_words, level_behind,
    place_behind, small_lands,
)

FULL = 10 ** 20
FAR = 10 ** 18


class HighestTest(unittest.TestCase):
    def assert_shown(self, land, store, base):
        """The told levels from both sides: by trips that come there with them, and by a lid."""
        told = highest(land, store, base)
        trips = trips_to(land, store, base)
        self.assertEqual(len(trips), land[0])
        for place, level in enumerate(told):
            if level is None:
                self.assertIsNone(trips[place])
                continue
            start, trip = trips[place]
            self.assertIsNotNone(base[start])
            self.assertEqual(place_behind(land, start, trip), place)
            self.assertEqual(level_behind(land, store, base[start], trip), level)
            self.assertEqual(end_of(land, start, trip), place)
            self.assertEqual(arrival(land, store, start, base[start], trip), level)
            # So every told trip may be handed in again as any trip may.
            self.assertLessEqual(len(trip), 80)
            self.assertLessEqual(max([len(part[0]) for part in trip], default=0), 40)
        self.assertTrue(is_lid_by_words(land, store, base, told), (land, store, base))
        self.assertIs(is_lid(land, store, base, told), True)
        return told

    def test_no_beginning(self):
        land = (2, [(0, 1, 5), (1, 0, 5)])
        self.assertEqual(highest(land, 10, [None, None]), [None, None])
        self.assertEqual(trips_to(land, 10, [None, None]), [None, None])

    def test_no_ways(self):
        self.assertEqual(highest((3, []), 10, [4, None, 0]), [4, None, 0])
        self.assertEqual(trips_to((3, []), 10, [4, None, 0]), [(0, []), None, (2, [])])

    def test_told_ones(self):
        self.assertEqual(highest((2, [(0, 1, -4)]), 10, [4, None]), [4, 0])
        self.assertEqual(highest((2, [(0, 1, -4)]), 10, [3, None]), [3, None])
        self.assertEqual(highest((2, [(0, 1, 7)]), 10, [4, None]), [4, 10])
        self.assertEqual(highest((2, [(0, 1, -1), (0, 1, -2)]), 10, [4, 5]), [4, 5])
        self.assertEqual(highest((1, [(0, 0, -1)]), 10, [4]), [4])
        self.assertEqual(highest((1, [(0, 0, 0)]), 10, [4]), [4])
        self.assertEqual(highest((1, [(0, 0, 3)]), 10, [4]), [10])

    def test_told_trips(self):
        self.assertEqual(trips_to((2, [(0, 1, -4)]), 10, [4, None]), [(0, []), (0, [([0], 1)])])
        self.assertEqual(trips_to((2, [(1, 0, 5)]), 10, [4, 2]), [(1, [([0], 1)]), (1, [])])

    def test_a_round_that_fills_at_another_place_than_its_first(self):
        land = (2, [(0, 1, 10), (1, 0, -9)])
        for store in (10, 11, 1000, FULL):
            self.assertEqual(self.assert_shown(land, store, [0, None]), [store - 9, store])

    def test_a_round_that_gives_less_than_it_takes_is_not_walked(self):
        self.assertEqual(self.assert_shown((2, [(0, 1, 10), (1, 0, -10)]), FULL, [5, None]), [5, 15])
        self.assertEqual(self.assert_shown((2, [(0, 1, 10), (1, 0, -11)]), FULL, [5, None]), [5, 15])

    def test_a_round_that_can_just_or_not_be_walked(self):
        land = (3, [(0, 1, -50), (1, 0, 51), (0, 2, -FULL)])
        self.assertEqual(self.assert_shown(land, FULL, [49, None, None]), [49, None, None])
        self.assertEqual(self.assert_shown(land, FULL, [50, None, None]), [FULL, FULL - 50, 0])

    def test_a_store_that_is_just_too_small(self):
        land = (2, [(0, 0, 1), (0, 1, -FULL)])
        self.assertEqual(self.assert_shown(land, FULL, [0, None]), [FULL, 0])
        self.assertEqual(self.assert_shown(land, FULL - 1, [0, None]), [FULL - 1, None])

    def test_store_of_nothing(self):
        land = (3, [(0, 1, 5), (1, 0, 0), (1, 2, -1)])
        self.assertEqual(self.assert_shown(land, 0, [0, None, None]), [0, 0, None])

    def test_one_filling_behind_another(self):
        for many in range(1, 13):
            for store in (1, 7, FAR):
                land = chain_of_fillings(many, store)
                base = [0] + [None] * (many - 1)
                self.assertEqual(self.assert_shown(land, store, base), [store] * many)

    def test_a_long_round(self):
        ways = [(place, (place + 1) % 12, FAR if place == 5 else -FAR // 11 - 1) for place in range(12)]
        self.assert_shown((12, ways), FULL, [None] * 5 + [0] + [None] * 6)
        ways = [(place, (place + 1) % 12, FAR if place == 5 else -(FAR // 11)) for place in range(12)]
        told = self.assert_shown((12, ways), FULL, [None] * 5 + [0] + [None] * 6)
        self.assertEqual(told[6], FULL)

    def test_a_short_walk_that_is_worse_than_a_long_one(self):
        ways = [(place, place + 1, 1) for place in range(11)] + [(0, 11, 10)]
        self.assertEqual(self.assert_shown((12, ways), 100, [0] + [None] * 11)[11], 11)

    def test_every_small_land_against_all_walks(self):
        for land in small_lands(2, 2, 2):
            for store in (0, 1, 2, 3):
                for base in every_table(2, store):
                    self.assertEqual(highest(land, store, base), highest_by_states(land, store, base),
                                     (land, store, base))

    def test_three_ways_against_all_walks(self):
        for land in small_lands(2, 3, 2):
            for base in ([0, None], [None, 2], [1, 0]):
                self.assertEqual(highest(land, 4, base), highest_by_states(land, 4, base), (land, base))

    def test_drawn_lands_against_all_walks(self):
        for seed, reach in enumerate((1, 2, 4, 9)):
            for land, store, base in drawn_tasks(seed, 1500, 6, 14, reach, range(13)):
                self.assertEqual(self.assert_shown(land, store, base), highest_by_states(land, store, base),
                                 (land, store, base))

    def test_great_lands_against_all_walks(self):
        for land, store, base in drawn_tasks(9, 600, 12, 40, 5, (8, 20, 30)):
            self.assertEqual(self.assert_shown(land, store, base), highest_by_states(land, store, base),
                             (land, store, base))

    def test_great_lands_and_stores_from_both_sides(self):
        full = 0
        for land, store, base in great_tasks(1, 250):
            told = self.assert_shown(land, store, base)
            full += store > 0 and sum(told[place] == store and base[place] != store for place in range(land[0]))
        self.assertGreater(full, 1000)

    def test_more_to_begin_with_is_never_less_to_have(self):
        for land, store, base in great_tasks(2, 50):
            more = [level if level is None else min(store, level + store // 5) for level in base]
            for one, other in zip(highest(land, store, base), highest(land, store, more)):
                self.assertTrue(one is None or other >= one)

    def test_somewhat_beyond_the_bounds(self):
        land = chain_of_fillings(14, 10 ** 21)
        self.assertEqual(self.assert_shown(land, 10 ** 21, [0] + [None] * 13), [10 ** 21] * 14)
        land = (1, [(0, 0, -1)] * 45 + [(0, 0, 10 ** 19)])
        self.assertEqual(self.assert_shown(land, FULL, [0]), [FULL])


if __name__ == "__main__":
    unittest.main()
