"""Point [17], and of point [4] what it says of the least store."""

import itertools
import random
import unittest

from trudge.highest import highest
from trudge.stores import least_store
from walking import chain_of_fillings, drawn_land, highest_by_states, small_lands

FAR = 10 ** 18


def bound_of(land, begin, goal):
    """What the document tells as the most that a least store can be."""
    greatest = max([abs(change) for start, end, change in land[1]], default=0)
    return max(begin[1], goal[1] + (land[0] - 1) * greatest)


def comes_through(table_of, land, store, begin, goal):
    base = [begin[1] if place == begin[0] else None for place in range(land[0])]
    level = table_of(land, store, base)[goal[0]]
    return level is not None and level >= goal[1]


def least_store_by_states(land, begin, goal, most):
    for store in range(max(begin[1], goal[1]), most + 1):
        if comes_through(highest_by_states, land, store, begin, goal):
            return store
    return None


class LeastStoreTest(unittest.TestCase):
    def assert_least(self, land, begin, goal):
        """The told store is enough and one less that holds both levels isn't; or not even the bound is."""
        told = least_store(land, begin, goal)
        bound = bound_of(land, begin, goal)
        if told is None:
            for store in (bound, bound + 1, 2 * bound + 10 ** 6, 10 ** 20):
                self.assertFalse(comes_through(highest, land, store, begin, goal), (land, begin, goal))
            return None
        lowest = max(begin[1], goal[1])
        self.assertTrue(lowest <= told <= bound, (land, begin, goal))
        for store in (told, told + 1, bound, 2 * told + 5, max(told, 10 ** 20)):
            self.assertTrue(comes_through(highest, land, store, begin, goal), (land, begin, goal))
        if told > lowest:
            for store in (told - 1, lowest, (lowest + told) // 2):
                self.assertFalse(comes_through(highest, land, store, begin, goal), (land, begin, goal))
        return told

    def test_staying(self):
        self.assertEqual(least_store((1, []), (0, 5), (0, 5)), 5)
        self.assertEqual(least_store((1, []), (0, 5), (0, 3)), 5)
        self.assertEqual(least_store((1, []), (0, 0), (0, 0)), 0)
        self.assertIsNone(least_store((1, []), (0, 3), (0, 5)))

    def test_no_way_leads_there(self):
        self.assertIsNone(least_store((2, []), (0, 5), (1, 0)))
        self.assertIsNone(least_store((2, [(1, 0, 5)]), (0, 5), (1, 0)))
        self.assertIsNone(least_store((2, [(0, 1, -6)]), (0, 5), (1, 0)))

    def test_told_ones(self):
        self.assertEqual(least_store((2, [(0, 1, -5)]), (0, 5), (1, 0)), 5)
        self.assertEqual(least_store((2, [(0, 1, 5)]), (0, 1), (1, 6)), 6)
        self.assertIsNone(least_store((2, [(0, 1, 5)]), (0, 1), (1, 7)))
        self.assertEqual(least_store((3, [(0, 1, 9), (1, 2, -7)]), (0, 0), (2, 0)), 7)
        self.assertEqual(least_store((3, [(0, 1, 9), (1, 2, -7)]), (0, 0), (2, 2)), 9)
        self.assertIsNone(least_store((3, [(0, 1, 9), (1, 2, -7)]), (0, 0), (2, 3)))
        self.assertEqual(least_store((2, [(0, 0, 1), (0, 1, -FAR)]), (0, 0), (1, FAR)), 2 * FAR)
        self.assertEqual(least_store((1, [(0, 0, 1)]), (0, 0), (0, FAR)), FAR)

    def test_the_bound_is_met(self):
        ways = [(0, 0, 1)] + [(place, place + 1, -FAR) for place in range(11)]
        self.assertEqual(self.assert_least((12, ways), (0, 0), (11, FAR)), 12 * FAR)

    def test_one_filling_behind_another(self):
        for many in (1, 5, 12):
            told = self.assert_least(chain_of_fillings(many, FAR), (0, 0), (many - 1, 3))
            self.assertEqual(told, FAR if many > 1 else 3)

    def test_a_round_that_needs_room(self):
        # The round gives one, but only where the store holds what its first way gives.
        land = (2, [(0, 1, 10), (1, 0, -9)])
        self.assertEqual(self.assert_least(land, (0, 0), (0, 1)), 10)
        self.assertEqual(self.assert_least(land, (0, 0), (0, 50)), 59)
        self.assertEqual(self.assert_least(land, (0, 0), (1, 50)), 50)

    def test_every_small_land_against_all_walks(self):
        for land in small_lands(2, 2, 2):
            for begin, goal in itertools.product(((0, 0), (0, 2), (0, 3)), ((0, 1), (0, 3), (1, 0), (1, 1), (1, 3))):
                # Somewhat beyond the bound, so that it is seen to be one.
                most = bound_of(land, begin, goal) + 3
                self.assertEqual(least_store(land, begin, goal), least_store_by_states(land, begin, goal, most),
                                 (land, begin, goal))

    def test_drawn_lands_against_all_walks(self):
        draw = random.Random(1)
        found = 0
        for reach in (1, 3, 6):
            for number in range(1500):
                land = drawn_land(draw, 5, 10, reach)
                begin = (draw.randrange(land[0]), draw.choice((0, 1, 6)))
                goal = (draw.randrange(land[0]), draw.randint(0, 8))
                told = least_store(land, begin, goal)
                most = bound_of(land, begin, goal) + 3
                self.assertEqual(told, least_store_by_states(land, begin, goal, most), (land, begin, goal))
                found += told is not None and told > max(begin[1], goal[1])
        self.assertGreater(found, 50)

    def test_great_lands(self):
        draw = random.Random(2)
        found = 0
        for reach in (1, 10 ** 9, 10 ** 17, FAR):
            for most in (12, 20, 40):
                for number in range(120):
                    land = drawn_land(draw, 12, most, reach)
                    begin = (draw.randrange(land[0]), draw.randint(0, draw.choice((0, 5, reach))))
                    goal = (draw.randrange(land[0]), draw.randint(0, draw.choice((0, 5, reach, FAR))))
                    told = self.assert_least(land, begin, goal)
                    found += told is not None and told > max(begin[1], goal[1])
        self.assertGreater(found, 20)


if __name__ == "__main__":
    unittest.main()
