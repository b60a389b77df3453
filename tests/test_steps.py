"""Point [5]: levels and single changes."""

import unittest

from trudge.steps import is_level, is_whole, levels_along, stepped

FULL = 10 ** 20
GREAT = 10 ** 60 - 1


class SteppedTest(unittest.TestCase):
    def test_sum(self):
        self.assertEqual(stepped(10, 4, 3), 7)
        self.assertEqual(stepped(10, 4, -3), 1)
        self.assertEqual(stepped(10, 4, 0), 4)

    def test_down_to_nothing_and_below(self):
        self.assertEqual(stepped(10, 4, -4), 0)
        self.assertIsNone(stepped(10, 4, -5))
        self.assertIsNone(stepped(10, 0, -1))

    def test_up_to_the_store_and_beyond(self):
        self.assertEqual(stepped(10, 4, 5), 9)
        self.assertEqual(stepped(10, 4, 6), 10)
        self.assertEqual(stepped(10, 4, 7), 10)
        self.assertEqual(stepped(10, 10, 1), 10)

    def test_store_of_nothing(self):
        self.assertEqual(stepped(0, 0, 0), 0)
        self.assertEqual(stepped(0, 0, 1), 0)
        self.assertIsNone(stepped(0, 0, -1))

    def test_great_numbers(self):
        self.assertEqual(stepped(FULL, 0, FULL), FULL)
        self.assertEqual(stepped(FULL, FULL, -FULL), 0)
        self.assertEqual(stepped(FULL, FULL, 1 - FULL), 1)
        self.assertIsNone(stepped(FULL, FULL, -FULL - 1))
        self.assertEqual(stepped(FULL, 0, GREAT), FULL)
        self.assertEqual(stepped(0, 0, GREAT), 0)
        self.assertIsNone(stepped(FULL, FULL, -GREAT))

    def test_every_small_one(self):
        for store in range(5):
            for level in range(store + 1):
                for change in range(-7, 8):
                    told = stepped(store, level, change)
                    if level + change in range(store + 1):
                        self.assertEqual(told, level + change)
                    elif change > 0:
                        self.assertEqual(told, store)
                    else:
                        self.assertIsNone(told)


class LevelsAlongTest(unittest.TestCase):
    def test_no_changes(self):
        for level in (0, 3, 10):
            self.assertEqual(levels_along(10, level, []), [level])

    def test_all_walked(self):
        self.assertEqual(levels_along(10, 4, [3, -7, 0, 20, -10]), [4, 7, 0, 0, 10, 0])

    def test_as_far_as_they_can_be_walked(self):
        self.assertEqual(levels_along(10, 4, [-5]), [4])
        self.assertEqual(levels_along(10, 4, [-4, -1, 9, 1]), [4, 0])
        self.assertEqual(levels_along(10, 4, [2, -3, -4, 4, 5]), [4, 6, 3])

    def test_what_is_beyond_the_store_is_lost(self):
        self.assertEqual(levels_along(5, 5, [4, -5, -1]), [5, 5, 0])

    def test_store_of_nothing(self):
        self.assertEqual(levels_along(0, 0, [1, 0, GREAT, -1, 1]), [0, 0, 0, 0])

    def test_great_numbers(self):
        self.assertEqual(levels_along(FULL, 0, [GREAT, -FULL, FULL - 1, -GREAT, 1]), [0, FULL, 0, FULL - 1])

    def test_two_hundred_changes(self):
        self.assertEqual(levels_along(200, 0, [1] * 200), list(range(201)))
        self.assertEqual(levels_along(199, 199, [-1] * 200), list(range(199, -1, -1)))


class KindsTest(unittest.TestCase):
    def test_whole_numbers(self):
        for thing in (0, 1, -1, GREAT):
            self.assertIs(is_whole(thing), True)
        for thing in (True, False, None, "1", [1], (1,), {}):
            self.assertIs(is_whole(thing), False)

    def test_levels(self):
        self.assertEqual([is_level(3, thing) for thing in (-1, 0, 3, 4)], [False, True, True, False])
        for thing in (True, False, None, "1", [1], (1,), {}):
            self.assertIs(is_level(3, thing), False)


if __name__ == "__main__":
    unittest.main()
