"""Point [18], and of point [4] what it says of the fewest ways."""

import itertools
import random
import unittest

from trudge.soon import is_showing, soonest
from walking import (
    NO_TABLES, drawn_land, is_showing_by_words, put_otherwise, small_lands, states_by_ways, table_of_spots, walked,
)

FULL = 10 ** 20
FAR = 10 ** 18


def drawn_spot(draw, land, most):
    return (draw.randrange(land[0]), draw.choice((0, most, draw.randint(0, most))))


def soon_tasks(seed, many, places, most, reach, stores):
    """Tuples (land, store, begin, goal)."""
    draw = random.Random(seed)
    for number in range(many):
        land = drawn_land(draw, places, most, reach)
        store = draw.choice(stores)
        yield (land, store, drawn_spot(draw, land, min(store, FAR)), drawn_spot(draw, land, min(store, FAR)))


def great_soon_tasks(seed, many):
    for number, reach in enumerate((1, 10 ** 9, 10 ** 17, FAR)):
        yield from soon_tasks(repr((seed, number)), many, 12, 40, reach, (0, 7, 10 ** 9, FAR, FULL))


class SoonestTest(unittest.TestCase):
    def assert_walks_through(self, land, store, begin, goal, ways):
        place = begin[0]
        for number in ways:
            self.assertEqual(land[1][number][0], place)
            place = land[1][number][1]
        self.assertEqual(place, goal[0])
        level = walked(store, begin[1], [land[1][number][2] for number in ways])
        self.assertIsNotNone(level)
        self.assertGreaterEqual(level, goal[1])

    def assert_shown(self, land, store, begin, goal, most):
        """The told answer from both sides: by a walk, and by rows that show that no shorter one does."""
        told = soonest(land, store, begin, goal, most)
        rows = told[-1]
        if told[0] == "through":
            self.assertEqual(len(told), 3)
            self.assertLessEqual(len(told[1]), most)
            self.assertEqual(len(rows), len(told[1]))
            self.assert_walks_through(land, store, begin, goal, told[1])
        else:
            self.assertEqual(told, ("not", rows))
            self.assertEqual(len(rows), most + 1)
        self.assertTrue(is_showing_by_words(land, store, begin, goal, rows), (land, store, begin, goal, most))
        self.assertIs(is_showing(land, store, begin, goal, rows), True)
        return told

    def assert_as_all_walks(self, land, store, begin, goal, most):
        told = self.assert_shown(land, store, begin, goal, most)
        states = states_by_ways(land, store, begin, most)
        through = [number for number, spots in enumerate(states)
                   if any(place == goal[0] and level >= goal[1] for place, level in spots)]
        task = (land, store, begin, goal, most)
        if through:
            self.assertEqual((told[0], len(told[1])), ("through", through[0]), task)
        else:
            self.assertEqual(told[0], "not", task)
        self.assertEqual(told[-1], [table_of_spots(land[0], spots) for spots in states[:len(told[-1])]], task)
        return told

    def test_who_is_there_walks_no_way(self):
        for most in (0, 1, 200):
            self.assertEqual(soonest((1, []), 9, (0, 5), (0, 5), most), ("through", [], []))
            self.assertEqual(soonest((2, [(0, 1, 3), (1, 0, 3)]), 9, (0, 5), (0, 4), most), ("through", [], []))

    def test_none_at_most(self):
        self.assertEqual(soonest((2, [(0, 1, 3)]), 9, (0, 5), (1, 0), 0), ("not", [[5, None]]))
        self.assertEqual(soonest((1, [(0, 0, 3)]), 9, (0, 5), (0, 6), 0), ("not", [[5]]))

    def test_told_ones(self):
        land = (3, [(0, 1, -2), (1, 0, 3), (0, 2, -9)])
        self.assertEqual(soonest(land, 9, (0, 9), (2, 0), 5), ("through", [2], [[9, None, None]]))
        self.assertEqual(soonest(land, 9, (0, 8), (2, 0), 5),
                         ("through", [0, 1, 2], [[8, None, None], [None, 6, None], [9, None, None]]))
        self.assertEqual(soonest(land, 9, (0, 8), (2, 0), 3)[1], [0, 1, 2])
        self.assertEqual(soonest(land, 9, (0, 8), (2, 0), 2),
                         ("not", [[8, None, None], [None, 6, None], [9, None, None]]))
        self.assertEqual(soonest(land, 9, (0, 1), (2, 0), 2),
                         ("not", [[1, None, None], [None, None, None], [None, None, None]]))
        self.assertEqual(soonest(land, 8, (0, 8), (2, 0), 200)[0], "not")
        self.assertEqual(len(soonest(land, 8, (0, 8), (2, 0), 200)[1]), 201)

    def test_a_row_has_what_just_so_many_ways_bring(self):
        # Behind two ways one is back at the first place with less, though one might have stayed.
        land = (2, [(0, 1, -1), (1, 0, -1)])
        self.assertEqual(soonest(land, 9, (0, 5), (1, 9), 3), ("not", [[5, None], [None, 4], [3, None], [None, 2]]))

    def test_the_last_way_of_most(self):
        for most in (1, 12, 199, 200):
            land = (1, [(0, 0, 1)])
            self.assertEqual(soonest(land, 500, (0, 0), (0, most), most)[:2], ("through", [0] * most))
            self.assertEqual(soonest(land, 500, (0, 0), (0, most + 1), most)[0], "not")

    def test_more_ways_than_places(self):
        land = (2, [(0, 0, 1), (0, 1, -150)])
        told = self.assert_as_all_walks(land, 200, (0, 0), (1, 3), 200)
        self.assertEqual(told[1], [0] * 153 + [1])
        self.assertEqual(self.assert_as_all_walks(land, 200, (0, 0), (1, 51), 200)[0], "not")

    def test_every_small_land_against_all_walks(self):
        for land in small_lands(2, 2, 2):
            for begin, goal in itertools.product(((0, 0), (0, 2), (0, 3)), ((0, 1), (0, 3), (1, 0), (1, 1), (1, 3))):
                for most in (0, 1, 2, 5):
                    self.assert_as_all_walks(land, 3, begin, goal, most)

    def test_every_row_of_ways_written_out(self):
        for land, store, begin, goal in soon_tasks(1, 150, 3, 4, 3, range(5)):
            told = self.assert_shown(land, store, begin, goal, 4)
            for length in range(5 if told[0] == "not" else len(told[1])):
                for ways in itertools.product(range(len(land[1])), repeat=length):
                    place = begin[0]
                    for number in ways:
                        place = land[1][number][1] if land[1][number][0] == place else None
                    level = walked(store, begin[1], [land[1][number][2] for number in ways])
                    if place == goal[0] and level is not None:
                        self.assertLess(level, goal[1])
                        self.assertLessEqual(level, told[-1][length][place])

    def test_drawn_lands_against_all_walks(self):
        through = [0, 0]
        for seed, reach in enumerate((1, 2, 4)):
            for number, task in enumerate(soon_tasks(seed, 500, 6, 14, reach, range(13))):
                told = self.assert_as_all_walks(*task, (0, 1, 3, 7, 25)[number % 5])
                through[told[0] == "through"] += 1
        self.assertGreater(min(through), 200)

    def test_long_walks_against_all_walks(self):
        long = 0
        for task in soon_tasks(8, 300, 5, 9, 1, (15, 25)):
            told = self.assert_as_all_walks(*task, 60)
            long += told[0] == "through" and len(told[1]) > 6
        self.assertGreater(long, 15)

    def test_great_lands_and_stores_from_both_sides(self):
        through = [0, 0]
        for number, task in enumerate(great_soon_tasks(1, 150)):
            told = self.assert_shown(*task, (0, 3, 20, 200)[number % 4])
            through[told[0] == "through"] += 1
        self.assertGreater(min(through), 100)

    def test_all_bounds_at_once(self):
        ways = [(place % 12, (place + 1) % 12, -FAR if place % 2 else FAR) for place in range(40)]
        told = self.assert_shown((12, ways), FULL, (0, FAR), (11, FAR), 200)
        self.assertEqual((told[0], len(told[1])), ("through", 11))
        self.assertEqual(self.assert_shown((12, ways), FULL, (0, 0), (11, FAR), 200)[0], "through")
        self.assertEqual(self.assert_shown((12, ways[1::2]), FULL, (0, FAR), (11, FAR), 200)[0], "not")

    def test_rows_that_rise_tell_of_no_walk_beyond_most(self):
        for task in great_soon_tasks(2, 60):
            told = soonest(*task, 20)
            if told[0] == "through":
                fewest = len(told[1])
                if fewest > 0:
                    self.assertEqual(soonest(*task, fewest - 1), ("not", told[2]))
                self.assertEqual(soonest(*task, fewest), told)


class IsShowingTest(unittest.TestCase):
    LAND = (2, [(0, 1, -1), (1, 0, 2)])

    def test_no_rows(self):
        self.assertIs(is_showing(self.LAND, 3, (0, 1), (1, 3), []), True)
        self.assertIs(is_showing(self.LAND, 3, (0, 1), (0, 1), []), True)

    def test_told_ones(self):
        for rows, is_one in (
                ([[1, None]], True),
                ([[1, 2]], True),
                ([[3, 2]], True),
                ([[0, None]], False),
                ([[None, None]], False),
                ([[1, 3]], False),
                ([[1, None], [None, 0]], True),
                ([[1, None], [3, 2]], True),
                ([[1, None], [None, None]], False),
                ([[1, None], [None, 3]], False),
                ([[1, None], [None, 0], [2, None]], True),
                ([[1, None], [None, 0], [1, None]], False),
                ([[1, None], [None, 0], [2, 3]], False),
                ([[1, None], [None, 0], [2, None], [None, 1], [3, None]], True),
                ([[1, None], [None, 0], [2, None], [None, 0], [3, None]], False),
                ([[1, None], [None, 0], [2, None], [None, 1], [2, None]], False)):
            self.assertIs(is_showing(self.LAND, 3, (0, 1), (1, 3), rows), is_one, rows)

    def test_where_one_is_there_none_show(self):
        self.assertIs(is_showing(self.LAND, 3, (0, 1), (0, 1), [[1, None]]), False)
        self.assertIs(is_showing(self.LAND, 3, (0, 1), (0, 2), [[1, None]]), True)

    def test_what_goes_beyond_the_store_is_lost(self):
        land = (2, [(0, 1, 9)])
        self.assertIs(is_showing(land, 3, (0, 1), (0, 3), [[1, None], [None, 3]]), True)
        self.assertIs(is_showing(land, 3, (0, 1), (0, 3), [[1, None], [None, 2]]), False)

    def test_other_things(self):
        rows = [[1, None], [None, 0]]
        self.assertIs(is_showing(self.LAND, 3, (0, 1), (1, 3), rows), True)
        for number, thing in enumerate(NO_TABLES):
            if thing != []:
                self.assertIs(is_showing(self.LAND, 3, (0, 1), (1, 3), thing), False, number)
            self.assertIs(is_showing(self.LAND, 3, (0, 1), (1, 3), [thing]), False, number)
            self.assertIs(is_showing(self.LAND, 3, (0, 1), (1, 3), [[1, None], thing]), False, number)
            self.assertIs(is_showing(self.LAND, 3, (0, 1), (1, 3), rows + [thing]), False, number)
        for thing in (tuple(rows), {0: [1, None]}, "rows", [tuple(row) for row in rows], [rows], (), {}):
            self.assertIs(is_showing(self.LAND, 3, (0, 1), (1, 3), thing), False)

    def test_every_two_small_rows(self):
        tables = [list(table) for table in itertools.product((None, 0, 1, 2), repeat=2)]
        for land in ((2, [(0, 1, 1)]), (2, [(0, 1, -1), (1, 0, 1), (0, 0, 2)])):
            for one, other in itertools.product(tables, repeat=2):
                for goal in ((1, 1), (0, 2)):
                    self.assertIs(is_showing(land, 2, (0, 1), goal, [one, other]),
                                  is_showing_by_words(land, 2, (0, 1), goal, [one, other]))

    def test_one_level_put_otherwise(self):
        found = [0, 0]
        for land, store, begin, goal in great_soon_tasks(3, 30):
            rows = soonest(land, store, begin, goal, 5)[-1]
            for number, row in enumerate(rows):
                for other in put_otherwise(store, row):
                    changed = rows[:number] + [other] + rows[number + 1:]
                    is_one = is_showing(land, store, begin, goal, changed)
                    self.assertIs(is_one, is_showing_by_words(land, store, begin, goal, changed))
                    found[is_one] += 1
        self.assertGreater(min(found), 500)

    def test_rows_that_show_have_no_less_than_the_told_ones(self):
        draw = random.Random(4)
        for land, store, begin, goal in soon_tasks(5, 400, 4, 6, 3, range(7)):
            rows = soonest(land, store, begin, goal, 3)[-1]
            higher = [[level if level is None or draw.random() < 0.7 else min(store, level + 1) for level in row]
                      for row in rows]
            for shown in (higher, rows + [rows[-1]] if rows else [[store] * land[0]]):
                if is_showing(land, store, begin, goal, shown):
                    fewest = soonest(land, store, begin, goal, len(shown))
                    self.assertTrue(fewest[0] == "not" or len(fewest[1]) >= len(shown))
                    for one, other in zip(rows, shown):
                        self.assertTrue(all(a is None or b is not None and a <= b for a, b in zip(one, other)))


if __name__ == "__main__":
    unittest.main()
