"""Point [15]: floors."""

import random
import unittest

from trudge.floors import is_floor
from trudge.least import least
from walking import (
    NO_TABLES, drawn_table, drawn_tasks, every_table, great_tasks, is_floor_by_words, put_otherwise, small_lands,
)

FULL = 10 ** 20


def is_no_less(one, other):
    return one is None or other is not None and one >= other


class IsFloorTest(unittest.TestCase):
    def test_told_ones(self):
        land = (2, [(0, 1, -2)])
        self.assertIs(is_floor(land, 5, [None, 3], [5, 3]), True)
        self.assertIs(is_floor(land, 5, [None, 3], [4, 3]), True)
        self.assertIs(is_floor(land, 5, [None, 3], [4, 2]), True)
        self.assertIs(is_floor(land, 5, [None, 3], [5, 2]), False)
        self.assertIs(is_floor(land, 5, [None, 3], [0, 0]), True)
        self.assertIs(is_floor(land, 5, [None, 3], [None, 3]), False)
        self.assertIs(is_floor(land, 5, [None, 3], [5, 4]), False)
        self.assertIs(is_floor(land, 5, [None, 3], [5, None]), False)
        self.assertIs(is_floor(land, 5, [None, 4], [None, 4]), True)
        self.assertIs(is_floor(land, 5, [None, 4], [5, 4]), True)
        self.assertIs(is_floor(land, 5, [4, None], [4, None]), True)
        self.assertIs(is_floor(land, 5, [None, None], [None, None]), True)
        self.assertIs(is_floor((2, [(0, 1, 9)]), 5, [None, 5], [0, 5]), True)
        self.assertIs(is_floor((2, [(0, 1, 9)]), 5, [None, 5], [1, 5]), False)
        self.assertIs(is_floor((1, [(0, 0, 1)]), 5, [3], [3]), False)
        self.assertIs(is_floor((1, [(0, 0, 1)]), 5, [3], [0]), True)
        self.assertIs(is_floor((1, [(0, 0, -6)]), 5, [0], [0]), True)

    def test_other_things(self):
        for land in ((2, []), (2, [(0, 1, 2), (1, 0, -1)])):
            for goal in ([None, None], [0, None], [3, 3]):
                self.assertIs(is_floor(land, 3, goal, [0, 0]), True)
                for number, thing in enumerate(NO_TABLES):
                    self.assertIs(is_floor(land, 3, goal, thing), False, number)

    def test_the_store_itself_and_one_more(self):
        self.assertIs(is_floor((2, []), FULL, [None, None], [FULL, 0]), True)
        self.assertIs(is_floor((2, []), FULL, [None, None], [FULL + 1, 0]), False)
        self.assertIs(is_floor((2, []), 0, [0, None], [0, None]), True)
        self.assertIs(is_floor((2, []), 0, [None, None], [1, None]), False)

    def test_every_small_table_and_the_greatest_of_floors(self):
        for land in small_lands(2, 2, 2):
            for goal in ([None, 1], [0, None], [1, 2], [None, None]):
                told = least(land, 2, goal)
                for table in every_table(2, 2):
                    is_one = is_floor(land, 2, goal, table)
                    self.assertIs(is_one, is_floor_by_words(land, 2, goal, table), (land, goal, table))
                    if is_one:
                        self.assertTrue(all(map(is_no_less, told, table)), (land, goal, table))

    def test_drawn_tables_of_small_lands(self):
        draw = random.Random(4)
        floors = 0
        for land, store, goal in drawn_tasks(4, 6000, 4, 8, 3, range(9)):
            table = drawn_table(draw, land[0], store)
            is_one = is_floor(land, store, goal, table)
            floors += is_one
            self.assertIs(is_one, is_floor_by_words(land, store, goal, table), (land, store, goal, table))
            if is_one:
                self.assertTrue(all(map(is_no_less, least(land, store, goal), table)))
        self.assertGreater(floors, 500)

    def test_one_level_put_otherwise(self):
        floors = 0
        for land, store, goal in great_tasks(8, 40):
            told = least(land, store, goal)
            self.assertIs(is_floor(land, store, goal, told), True)
            for table in put_otherwise(store, told):
                is_one = is_floor(land, store, goal, table)
                floors += is_one
                self.assertIs(is_one, is_floor_by_words(land, store, goal, table), (land, store, goal, table))
                if is_one:
                    self.assertTrue(all(map(is_no_less, told, table)))
        self.assertGreater(floors, 300)

    def test_one_more_at_a_place_is_no_floor(self):
        for land, store, goal in great_tasks(9, 40):
            told = least(land, store, goal)
            for place, level in enumerate(told):
                if level is not None:
                    for more in (None, level + 1):
                        self.assertIs(is_floor(land, store, goal, told[:place] + [more] + told[place + 1:]), False)


if __name__ == "__main__":
    unittest.main()
