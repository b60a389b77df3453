"""Points [19] to [21], and of point [4] what it says of levels without a bound on the store."""

import itertools
import random
import unittest

from trudge.boundless import boundless, is_open_lid, reaching
from trudge.highest import highest
from trudge.trips import arrival, end_of
from walking import (
    NO_TABLES, boundless_by_states, boundless_by_sums, chain_of_fillings, drawn_tasks, is_at_least,
    is_open_lid_by_words, level_behind, open_bound, place_behind, small_lands,
)

FULL = 10 ** 20
FAR = 10 ** 18


def great_open_tasks(seed, many):
    """Tuples (land, base) up to the bounds that the document tells."""
    for number, reach in enumerate((1, 3, 10 ** 9, 10 ** 17, FAR)):
        for most in (8, 16, 40):
            for task in drawn_tasks(repr((seed, number, most)), many, 12, most, reach, (0, 5, 10 ** 9, FAR)):
                yield (task[0], task[2])


def put_otherwise_openly(table):
    for place, level in enumerate(table):
        near = {None, 0, "any", FULL} | ({level - 1, level + 1} if level not in (None, "any") else set())
        for other in near - {level}:
            if other is None or other == "any" or other >= 0:
                yield table[:place] + [other] + table[place + 1:]


class BoundlessTest(unittest.TestCase):
    def assert_shown(self, land, base):
        told = boundless(land, base)
        self.assertEqual(told, boundless_by_sums(land, base), (land, base))
        self.assertTrue(is_open_lid_by_words(land, base, told), (land, base))
        self.assertIs(is_open_lid(land, base, told), True)
        self.assertEqual([level.__class__ in (int, str, None.__class__) for level in told], [True] * land[0])
        return told

    def test_no_beginning(self):
        self.assertEqual(boundless((2, [(0, 1, 5), (1, 0, 5)]), [None, None]), [None, None])

    def test_no_ways(self):
        self.assertEqual(boundless((3, []), [4, None, 0]), [4, None, 0])
        self.assertEqual(boundless((1, []), [FAR]), [FAR])

    def test_told_ones(self):
        self.assertEqual(boundless((2, [(0, 1, 5)]), [0, None]), [0, 5])
        self.assertEqual(boundless((2, [(0, 1, -5)]), [5, None]), [5, 0])
        self.assertEqual(boundless((2, [(0, 1, -5)]), [4, None]), [4, None])
        self.assertEqual(boundless((2, [(0, 1, FAR)]), [FAR, None]), [FAR, 2 * FAR])
        self.assertEqual(boundless((1, [(0, 0, 1)]), [0]), ["any"])
        self.assertEqual(boundless((1, [(0, 0, 0)]), [7]), [7])
        self.assertEqual(boundless((1, [(0, 0, -1)]), [7]), [7])

    def test_rounds(self):
        land = (4, [(0, 1, -50), (1, 0, 51), (1, 2, -FAR)])
        self.assertEqual(self.assert_shown(land, [49, None, None, 3]), [49, None, None, 3])
        self.assertEqual(self.assert_shown(land, [50, None, None, 3]), ["any", "any", "any", 3])
        land = (4, [(0, 1, -50), (1, 0, 50), (1, 2, -FAR)])
        self.assertEqual(self.assert_shown(land, [60, None, None, None]), [60, 10, None, None])

    def test_places_ahead_of_a_round_keep_their_levels(self):
        land = (3, [(0, 1, -2), (1, 1, 1), (1, 2, -9)])
        self.assertEqual(self.assert_shown(land, [5, None, None]), [5, "any", "any"])
        self.assertEqual(self.assert_shown(land, [1, None, None]), [1, None, None])
        self.assertEqual(self.assert_shown(land, [1, None, 3]), [1, None, 3])

    def test_one_round_behind_another(self):
        for many in (1, 2, 5, 12):
            land = chain_of_fillings(many, FAR)
            self.assertEqual(self.assert_shown(land, [0] + [None] * (many - 1)), ["any"] * many)

    def test_the_bound_is_met(self):
        ways = [(place, place + 1, FAR) for place in range(11)]
        base = [FAR] + [None] * 11
        told = self.assert_shown((12, ways), base)
        self.assertEqual(told[11], open_bound((12, ways), base))
        ways = ways + [(place, 11, -FAR) for place in range(11)] + [(11, place, -FAR) for place in range(10)]
        self.assertEqual(self.assert_shown((12, ways), base)[11], "any")

    def test_a_round_that_gives_one(self):
        ways = [(place, place + 1, -FAR) for place in range(11)]
        base = [FAR] + [None] * 11
        self.assertEqual(self.assert_shown((12, ways + [(0, 0, 1)]), base), ["any"] * 12)
        self.assertEqual(self.assert_shown((12, ways + [(1, 1, 1)]), base), [FAR] + ["any"] * 11)
        self.assertEqual(self.assert_shown((12, ways + [(2, 2, 1)]), base), [FAR, 0] + [None] * 10)
        # Here a level that has a bound comes up to it, beside one that has none.
        land = (3, [(0, 0, 1), (2, 1, FAR)])
        self.assertEqual(self.assert_shown(land, [0, None, FAR]), ["any", 2 * FAR, FAR])

    def test_every_small_land_against_all_walks(self):
        for many, most in ((1, 3), (2, 2)):
            for land in small_lands(many, most, 2):
                for levels in itertools.product((None, 0, 1, 3), repeat=many):
                    base = list(levels)
                    told = self.assert_shown(land, base)
                    cap = 2 * open_bound(land, base) + 9
                    self.assertEqual(told, boundless_by_states(land, base, cap), (land, base))

    def test_drawn_lands_against_all_walks(self):
        found = {"none": 0, "any": 0, "more": 0}
        for seed, reach in enumerate((1, 2, 5)):
            for land, store, base in drawn_tasks(seed, 400, 5, 9, reach, range(7)):
                told = self.assert_shown(land, base)
                self.assertEqual(told, boundless_by_states(land, base, 2 * open_bound(land, base) + 9), (land, base))
                for level, first in zip(told, base):
                    found["none"] += level is None
                    found["any"] += level == "any"
                    found["more"] += level not in (None, "any", first)
        self.assertGreater(min(found.values()), 100)

    def test_great_lands(self):
        found = {"any": 0, "number": 0}
        for land, base in great_open_tasks(1, 120):
            for level, first in zip(self.assert_shown(land, base), base):
                if level is not None and level != first:
                    found["any" if level == "any" else "number"] += 1
        self.assertGreater(min(found.values()), 500)

    def test_beside_a_store(self):
        draw = random.Random(7)
        for land, base in great_open_tasks(2, 60):
            told = boundless(land, base)
            bound = open_bound(land, base)
            taken = bound - max([level for level in base if level is not None], default=0)
            for store in (bound, bound + 1, 2 * bound, bound + draw.randrange(FAR), FULL):
                for level, there in zip(told, highest(land, store, base)):
                    if level == "any":
                        self.assertIsNotNone(there)
                        self.assertGreaterEqual(there, store - taken)
                    else:
                        self.assertEqual(there, level)

    def test_beside_a_lesser_store(self):
        draw = random.Random(8)
        for land, base in great_open_tasks(3, 60):
            told = boundless(land, base)
            lowest = max([level for level in base if level is not None], default=0)
            for store in (lowest, lowest + 1, draw.randint(lowest, lowest + FAR)):
                for level, there in zip(told, highest(land, store, base)):
                    self.assertTrue(is_at_least(level, there))

    def test_somewhat_beyond_the_bounds(self):
        land = chain_of_fillings(14, 10 ** 19)
        self.assertEqual(self.assert_shown(land, [0] + [None] * 13), ["any"] * 14)
        self.assertEqual(self.assert_shown((2, [(0, 1, 10 ** 19)] * 45), [10 ** 19, None]), [10 ** 19, 2 * 10 ** 19])


class ReachingTest(unittest.TestCase):
    def assert_reached(self, land, base, place, wanted):
        """Whether it is told; a told trip is walked for the told store."""
        told = reaching(land, base, place, wanted)
        if told is None:
            return False
        store, start, trip = told
        self.assertTrue(0 <= store <= FULL, (land, base, place, wanted))
        self.assertIsNotNone(base[start])
        self.assertLessEqual(base[start], store)
        self.assertEqual(place_behind(land, start, trip), place)
        self.assertEqual(end_of(land, start, trip), place)
        level = arrival(land, store, start, base[start], trip)
        self.assertEqual(level, level_behind(land, store, base[start], trip))
        self.assertGreaterEqual(level, wanted, (land, base, place, wanted))
        self.assertLessEqual(len(trip), 80)
        self.assertLessEqual(max([len(part[0]) for part in trip], default=0), 40)
        return True

    def assert_reached_as_told(self, land, base, more):
        for place, level in enumerate(boundless(land, base)):
            wanted = {0, 1, FAR, *more} | ({level - 1, level, level + 1} if level not in (None, "any") else set())
            for one in sorted(wanted):
                if 0 <= one <= FAR:
                    can_be_had = level == "any" or level is not None and level >= one
                    self.assertIs(self.assert_reached(land, base, place, one), can_be_had, (land, base, place, one))

    def test_staying(self):
        self.assertIs(self.assert_reached((1, []), [5], 0, 5), True)
        self.assertIs(self.assert_reached((1, []), [5], 0, 0), True)
        self.assertIsNone(reaching((1, []), [5], 0, 6))
        self.assertIsNone(reaching((2, []), [5, None], 1, 0))
        self.assertIsNone(reaching((1, []), [None], 0, 0))

    def test_told_ones(self):
        land = (3, [(0, 1, 4), (1, 0, -3), (1, 2, -FAR)])
        for place, wanted in itertools.product(range(3), (0, 1, 10 ** 9, FAR)):
            self.assertIs(self.assert_reached(land, [0, None, None], place, wanted), True)
        self.assertIsNone(reaching(land, [None, None, 7], 0, 0))
        self.assertIsNone(reaching(land, [None, None, 7], 2, 8))
        self.assertIs(self.assert_reached(land, [None, None, 7], 2, 7), True)

    def test_a_round_that_can_just_or_not_be_walked(self):
        land = (2, [(0, 1, -50), (1, 0, 51)])
        self.assertIs(self.assert_reached(land, [50, None], 1, FAR), True)
        self.assertIsNone(reaching(land, [49, None], 1, 0))
        self.assertIsNone(reaching(land, [49, None], 0, 50))

    def test_the_greatest(self):
        ways = [(0, 0, 1)] + [(place, place + 1, -FAR) for place in range(11)]
        for place in range(12):
            self.assertIs(self.assert_reached((12, ways), [FAR] + [None] * 11, place, FAR), True)
            self.assertIs(self.assert_reached((12, ways), [0] + [None] * 11, place, FAR), True)

    def test_one_round_behind_another(self):
        for many in (1, 5, 12):
            base = [0] + [None] * (many - 1)
            self.assertIs(self.assert_reached(chain_of_fillings(many, FAR), base, many - 1, FAR), True)

    def test_every_small_land(self):
        for land in small_lands(2, 2, 2):
            for base in ([0, None], [1, 3], [None, 2]):
                self.assert_reached_as_told(land, base, (2, 4))

    def test_drawn_lands(self):
        for land, store, base in drawn_tasks(4, 200, 6, 12, 4, range(9)):
            self.assert_reached_as_told(land, base, (5,))

    def test_great_lands(self):
        draw = random.Random(9)
        for land, base in great_open_tasks(4, 15):
            self.assert_reached_as_told(land, base, (draw.randrange(10 ** 9), draw.randrange(FAR)))


class IsOpenLidTest(unittest.TestCase):
    def test_told_ones(self):
        land = (2, [(0, 1, -2)])
        for table, is_one in (
                ([4, 2], True), ([5, 3], True), ([4, FULL], True), ([4, "any"], True), (["any", "any"], True),
                ([10 ** 60, 10 ** 60], True), ([3, 2], False), ([None, 2], False), ([4, 1], False),
                ([4, None], False), (["any", 10 ** 60], False), (["any", None], False)):
            self.assertIs(is_open_lid(land, [4, None], table), is_one, table)
        self.assertIs(is_open_lid(land, [1, None], [1, None]), True)
        self.assertIs(is_open_lid(land, [1, None], [2, None]), False)
        self.assertIs(is_open_lid(land, [None, None], [None, None]), True)
        self.assertIs(is_open_lid(land, [None, None], [None, "any"]), True)
        self.assertIs(is_open_lid((1, [(0, 0, 1)]), [4], [10 ** 60]), False)
        self.assertIs(is_open_lid((1, [(0, 0, 1)]), [4], ["any"]), True)
        self.assertIs(is_open_lid((1, [(0, 0, 0)]), [4], [4]), True)

    def test_other_things(self):
        for land in ((2, []), (2, [(0, 1, 2), (1, 0, -2)])):
            for base in ([None, None], [0, None], [0, 0]):
                self.assertIs(is_open_lid(land, base, [4, 6]), True)
                self.assertIs(is_open_lid(land, base, ["any", "any"]), True)
                for number, thing in enumerate(NO_TABLES):
                    if thing not in ([0, 4], [4, None], [10 ** 5000, 0]):
                        self.assertIs(is_open_lid(land, base, thing), False, number)
                for thing in ("any", ("any", "any"), ["any"], ["any"] * 3, ["any", "Any"], ["any", "any "],
                              ["any", "None"], [b"any", "any"], ["any", ["any"]], ["any", ("any",)], ["any", any],
                              ["any", True], [False, "any"], ["any", -1], [-1, -1], {"any": 1, "all": 2}):
                    self.assertIs(is_open_lid(land, base, thing), False, thing)

    def test_every_small_table_and_the_least_of_open_lids(self):
        tables = [list(table) for table in itertools.product((None, 0, 1, 2, 3, 4, "any"), repeat=2)]
        for land in small_lands(2, 2, 2):
            for base in ([None, 1], [0, None], [1, 2]):
                told = boundless(land, base)
                for table in tables:
                    is_one = is_open_lid(land, base, table)
                    self.assertIs(is_one, is_open_lid_by_words(land, base, table), (land, base, table))
                    if is_one:
                        self.assertTrue(all(map(is_at_least, table, told)), (land, base, table))

    def test_one_thing_put_otherwise(self):
        found = [0, 0]
        for land, base in great_open_tasks(5, 25):
            told = boundless(land, base)
            for table in put_otherwise_openly(told):
                is_one = is_open_lid(land, base, table)
                found[is_one] += 1
                self.assertIs(is_one, is_open_lid_by_words(land, base, table), (land, base, table))
                if is_one:
                    self.assertTrue(all(map(is_at_least, table, told)))
        self.assertGreater(min(found), 300)


if __name__ == "__main__":
    unittest.main()
