"""Points [25] and [26], and of point [4] what it says of places that give once."""

import itertools
import random
import unittest

from trudge.highest import highest
from trudge.springs import highest_by, is_spring_lid, trip_by
from walking import (
    NO_TABLES, drawn_table, great_spring_tasks, highest_by_by_states, is_at_least, is_spring_lid_by_words,
    put_otherwise, small_lands, spring_tasks, walked_with_springs,
)

FULL = 10 ** 20
FAR = 10 ** 18


def are_at_least(tables, others):
    return all(is_at_least(one, other) for table, less in zip(tables, others) for one, other in zip(table, less))


class HighestByTest(unittest.TestCase):
    def assert_shown(self, land, store, springs, base):
        """The told levels from both sides: by trips that use just these springs, and by a spring lid."""
        told = highest_by(land, store, springs, base)
        self.assertEqual(len(told), 2 ** len(springs))
        for some, place in itertools.product(range(len(told)), range(land[0])):
            found = trip_by(land, store, springs, base, some, place)
            if told[some][place] is None:
                self.assertIsNone(found)
                continue
            start, trip = found
            self.assertIsNotNone(base[start])
            self.assertEqual(walked_with_springs(land, store, springs, start, base[start], trip),
                             (place, told[some][place], some), (land, store, springs, base))
        self.assertTrue(is_spring_lid_by_words(land, store, springs, base, told), (land, store, springs, base))
        self.assertIs(is_spring_lid(land, store, springs, base, told), True)
        return told

    def test_no_springs(self):
        land = (2, [(0, 1, 3)])
        self.assertEqual(highest_by(land, 9, [], [4, None]), [[4, 7]])
        self.assertEqual(trip_by(land, 9, [], [4, None], 0, 1), (0, [([0], 1)]))
        self.assertEqual(trip_by(land, 9, [], [4, None], 0, 0), (0, []))
        self.assertIsNone(trip_by(land, 9, [], [None, 4], 0, 0))

    def test_no_beginning(self):
        self.assertEqual(highest_by((2, [(0, 1, 3)]), 9, [(0, 5)], [None, None]), [[None, None], [None, None]])
        self.assertIsNone(trip_by((2, [(0, 1, 3)]), 9, [(0, 5)], [None, None], 1, 0))

    def test_told_ones(self):
        land = (2, [(0, 1, -3)])
        self.assertEqual(highest_by(land, 9, [(0, 5)], [1, None]), [[1, None], [6, 3]])
        self.assertEqual(trip_by(land, 9, [(0, 5)], [1, None], 1, 1), (0, [("use", 0), ([0], 1)]))
        self.assertEqual(highest_by(land, 9, [(1, 5)], [4, None]), [[4, 1], [None, 6]])
        self.assertEqual(trip_by(land, 9, [(1, 5)], [4, None], 1, 1), (0, [([0], 1), ("use", 0)]))
        self.assertEqual(highest_by(land, 9, [(1, 5)], [2, None]), [[2, None], [None, None]])
        self.assertEqual(highest_by(land, 9, [(0, 2), (1, 5)], [2, None]),
                         [[2, None], [4, 1], [None, None], [None, 6]])

    def test_used_where_it_gives_nothing(self):
        self.assertEqual(highest_by((1, []), 9, [(0, 5)], [9]), [[9], [9]])
        self.assertEqual(trip_by((1, []), 9, [(0, 5)], [9], 1, 0), (0, [("use", 0)]))
        self.assertEqual(highest_by((1, []), 0, [(0, FAR), (0, 1)], [0]), [[0]] * 4)

    def test_what_goes_beyond_the_store_is_lost(self):
        self.assertEqual(highest_by((1, []), 9, [(0, 5), (0, 3)], [2]), [[2], [7], [5], [9]])

    def test_the_row_of_the_springs_is_free(self):
        # The second spring must be used first, to come to the first one.
        land = (3, [(0, 1, -4), (1, 2, -9)])
        told = self.assert_shown(land, 10, [(1, 9), (0, 4)], [0, None, None])
        self.assertEqual(told, [[0, None, None], [None, None, None], [4, 0, None], [None, 9, 0]])
        self.assertEqual(trip_by(land, 10, [(1, 9), (0, 4)], [0, None, None], 3, 2),
                         (0, [("use", 1), ([0], 1), ("use", 0), ([1], 1)]))

    def test_late_used_it_loses_less(self):
        land = (2, [(0, 1, -6), (1, 0, -1)])
        self.assertEqual(self.assert_shown(land, 10, [(0, 6)], [10, None]), [[10, 4], [10, 4]])
        self.assertEqual(self.assert_shown(land, 10, [(0, 6)], [8, None]), [[8, 2], [10, 4]])

    def test_a_round_that_a_spring_opens(self):
        land = (3, [(0, 1, -50), (1, 0, 51), (0, 2, -FULL)])
        told = self.assert_shown(land, FULL, [(0, 1)], [49, None, None])
        self.assertEqual(told, [[49, None, None], [FULL, FULL - 50, 0]])

    def test_of_two_at_one_place_the_right_one_goes_first(self):
        # The one opens the round that fills the store; used last it would give next to nothing.
        land = (2, [(0, 1, -50), (1, 0, 51)])
        for springs in ([(0, 50), (0, 1)], [(0, 1), (0, 50)]):
            told = self.assert_shown(land, FULL, springs, [0, None])
            self.assertEqual(told[3], [FULL, FULL - 50])

    def test_four_springs_at_one_place(self):
        told = self.assert_shown((1, []), 100, [(0, 1), (0, 2), (0, 4), (0, 8)], [0])
        self.assertEqual(told, [[some] for some in range(16)])

    def test_every_small_land_against_all_walks(self):
        for land in small_lands(2, 2, 2):
            for springs in ([(0, 1)], [(1, 2)], [(0, 1), (1, 1)]):
                for base in ([0, None], [1, 2]):
                    self.assertEqual(highest_by(land, 3, springs, base), highest_by_by_states(land, 3, springs, base),
                                     (land, springs, base))

    def test_drawn_lands_against_all_walks(self):
        found = 0
        for seed, reach in enumerate((1, 3, 6)):
            for task in spring_tasks(seed, 150, 5, 9, reach, range(11), 4):
                told = self.assert_shown(*task)
                self.assertEqual(told, highest_by_by_states(*task), task)
                found += told[0] != told[-1]
        self.assertGreater(found, 150)

    def test_great_lands_from_both_sides(self):
        for task in great_spring_tasks(1, 12):
            told = self.assert_shown(*task)
            self.assertEqual(told[0], highest(task[0], task[1], task[3]))

    def test_somewhat_beyond_the_bounds(self):
        springs = [(0, 10 ** 19)] * 5
        told = self.assert_shown((1, []), 10 ** 21, springs, [0])
        self.assertEqual(told[31], [5 * 10 ** 19])


class IsSpringLidTest(unittest.TestCase):
    def test_told_ones(self):
        land = (2, [(0, 1, -3)])
        for tables, is_one in (
                ([[2, None], [4, 1], [None, None], [None, 6]], True),
                ([[9, 9]] * 4, True),
                ([[1, None], [4, 1], [None, None], [None, 6]], False),
                ([[None, None], [4, 1], [None, None], [None, 6]], False),
                ([[2, None], [3, 0], [None, None], [None, 6]], False),
                ([[2, None], [None, None], [None, None], [None, 6]], False),
                ([[2, None], [4, 0], [None, None], [None, 6]], False),
                ([[2, None], [4, None], [None, None], [None, 6]], False),
                ([[2, None], [4, 1], [None, None], [None, 5]], False),
                ([[2, None], [4, 1], [None, None], [None, None]], False),
                ([[2, None], [4, 1], [None, 0], [None, 6]], True),
                ([[2, None], [4, 1], [0, None], [None, 6]], False),
                ([[2, 3], [4, 3], [None, 8], [None, 8]], True),
                ([[2, 3], [4, 3], [None, 7], [None, 8]], False)):
            self.assertIs(is_spring_lid(land, 9, [(0, 2), (1, 5)], [2, None], tables), is_one, tables)

    def test_the_gift_ends_at_the_store(self):
        self.assertIs(is_spring_lid((1, []), 9, [(0, FAR)], [2], [[2], [9]]), True)
        self.assertIs(is_spring_lid((1, []), 9, [(0, FAR)], [2], [[2], [8]]), False)
        self.assertIs(is_spring_lid((1, []), 9, [(0, FAR)], [2], [[2], [10]]), False)

    def test_other_things(self):
        full = [3, 3]
        for springs in ([], [(0, 1)], [(0, 1), (1, 2)]):
            self.assertIs(is_spring_lid((2, []), 3, springs, [0, None], [full] * 2 ** len(springs)), True)
            for number in (0, 1, 2, 3, 5, 8):
                if number != 2 ** len(springs):
                    self.assertIs(is_spring_lid((2, []), 3, springs, [None, None], [full] * number), False)
            for number, thing in enumerate(NO_TABLES):
                if thing != [[0, 0]]:
                    self.assertIs(is_spring_lid((2, []), 3, springs, [None, None], thing), False, number)
                for at in range(2 ** len(springs)):
                    tables = [full] * at + [thing] + [full] * (2 ** len(springs) - at - 1)
                    self.assertIs(is_spring_lid((2, []), 3, springs, [None, None], tables), False, number)
            for thing in ((full,) * 2 ** len(springs), {0: full, 1: full}, [[full]], "tables"):
                self.assertIs(is_spring_lid((2, []), 3, springs, [None, None], thing), False)

    def test_every_small_table_and_the_least_of_spring_lids(self):
        tables = [list(table) for table in itertools.product((None, 0, 1, 2), repeat=2)]
        for land in ((2, []), (2, [(0, 1, -1)]), (2, [(0, 1, 1), (1, 0, -1)])):
            for springs, base in itertools.product(([(0, 1)], [(1, 2)]), ([0, None], [1, 0])):
                told = highest_by(land, 2, springs, base)
                for two in itertools.product(tables, repeat=2):
                    is_one = is_spring_lid(land, 2, springs, base, list(two))
                    self.assertIs(is_one, is_spring_lid_by_words(land, 2, springs, base, two))
                    if is_one:
                        self.assertTrue(are_at_least(two, told))

    def test_drawn_tables(self):
        draw = random.Random(5)
        found = [0, 0]
        for land, store, springs, base in spring_tasks(6, 3000, 3, 3, 2, range(5), 2):
            tables = [drawn_table(draw, land[0], store) for some in range(2 ** len(springs))]
            is_one = is_spring_lid(land, store, springs, base, tables)
            self.assertIs(is_one, is_spring_lid_by_words(land, store, springs, base, tables))
            found[is_one] += 1
            if is_one:
                self.assertTrue(are_at_least(tables, highest_by(land, store, springs, base)))
        self.assertGreater(min(found), 200)

    def test_one_level_put_otherwise(self):
        found = [0, 0]
        for land, store, springs, base in great_spring_tasks(2, 4):
            told = highest_by(land, store, springs, base)
            for some, table in enumerate(told):
                for other in put_otherwise(store, table):
                    tables = told[:some] + [other] + told[some + 1:]
                    is_one = is_spring_lid(land, store, springs, base, tables)
                    self.assertIs(is_one, is_spring_lid_by_words(land, store, springs, base, tables))
                    found[is_one] += 1
                    if is_one:
                        self.assertTrue(are_at_least(tables, told))
        self.assertGreater(min(found), 200)


if __name__ == "__main__":
    unittest.main()
