"""Point [13]: lids."""

import random
import unittest

from trudge.highest import highest
from trudge.lids import is_lid
from walking import (
    NO_TABLES, drawn_table, drawn_tasks, every_table, great_tasks, is_lid_by_words, put_otherwise, small_lands,
)

FULL = 10 ** 20


def is_no_more(one, other):
    return one is None or other is not None and one <= other


class IsLidTest(unittest.TestCase):
    def test_told_ones(self):
        land = (2, [(0, 1, -2)])
        self.assertIs(is_lid(land, 5, [4, None], [4, 2]), True)
        self.assertIs(is_lid(land, 5, [4, None], [5, 3]), True)
        self.assertIs(is_lid(land, 5, [4, None], [4, 5]), True)
        self.assertIs(is_lid(land, 5, [4, None], [3, 2]), False)
        self.assertIs(is_lid(land, 5, [4, None], [None, 2]), False)
        self.assertIs(is_lid(land, 5, [4, None], [4, 1]), False)
        self.assertIs(is_lid(land, 5, [4, None], [4, None]), False)
        self.assertIs(is_lid(land, 5, [1, None], [1, None]), True)
        self.assertIs(is_lid(land, 5, [1, None], [2, None]), False)
        self.assertIs(is_lid(land, 5, [None, None], [None, None]), True)
        self.assertIs(is_lid((2, [(0, 1, 9)]), 5, [4, None], [4, 4]), False)
        self.assertIs(is_lid((2, [(0, 1, 9)]), 5, [4, None], [4, 5]), True)
        self.assertIs(is_lid((1, [(0, 0, 1)]), 5, [4], [4]), False)
        self.assertIs(is_lid((1, [(0, 0, 1)]), 5, [4], [5]), True)

    def test_other_things(self):
        for land in ((2, []), (2, [(0, 1, 2), (1, 0, -1)])):
            for base in ([None, None], [0, None], [0, 0]):
                self.assertIs(is_lid(land, 3, base, [3, 3]), True)
                for number, thing in enumerate(NO_TABLES):
                    self.assertIs(is_lid(land, 3, base, thing), False, number)

    def test_the_store_itself_and_one_more(self):
        self.assertIs(is_lid((2, []), FULL, [0, 0], [FULL, 0]), True)
        self.assertIs(is_lid((2, []), FULL, [0, 0], [FULL + 1, 0]), False)
        self.assertIs(is_lid((2, []), 0, [0, None], [0, None]), True)
        self.assertIs(is_lid((2, []), 0, [0, None], [1, None]), False)

    def test_every_small_table_and_the_least_of_lids(self):
        for land in small_lands(2, 2, 2):
            for base in ([None, 1], [0, None], [1, 2], [None, None]):
                told = highest(land, 2, base)
                for table in every_table(2, 2):
                    is_one = is_lid(land, 2, base, table)
                    self.assertIs(is_one, is_lid_by_words(land, 2, base, table), (land, base, table))
                    if is_one:
                        self.assertTrue(all(map(is_no_more, told, table)), (land, base, table))

    def test_drawn_tables_of_small_lands(self):
        draw = random.Random(3)
        lids = 0
        for land, store, base in drawn_tasks(3, 6000, 4, 8, 3, range(9)):
            table = drawn_table(draw, land[0], store)
            is_one = is_lid(land, store, base, table)
            lids += is_one
            self.assertIs(is_one, is_lid_by_words(land, store, base, table), (land, store, base, table))
            if is_one:
                self.assertTrue(all(map(is_no_more, highest(land, store, base), table)))
        self.assertGreater(lids, 500)

    def test_one_level_put_otherwise(self):
        lids = 0
        for land, store, base in great_tasks(3, 40):
            told = highest(land, store, base)
            self.assertIs(is_lid(land, store, base, told), True)
            for table in put_otherwise(store, told):
                is_one = is_lid(land, store, base, table)
                lids += is_one
                self.assertIs(is_one, is_lid_by_words(land, store, base, table), (land, store, base, table))
                if is_one:
                    self.assertTrue(all(map(is_no_more, told, table)))
        self.assertGreater(lids, 300)

    def test_one_less_at_a_place_is_no_lid(self):
        for land, store, base in great_tasks(4, 40):
            told = highest(land, store, base)
            for place, level in enumerate(told):
                if level is not None:
                    for less in (None, level - 1):
                        self.assertIs(is_lid(land, store, base, told[:place] + [less] + told[place + 1:]), False)


if __name__ == "__main__":
    unittest.main()
