"""Point [9]: lands."""

import unittest

from trudge.errors import BadLand
from trudge.lands import land_of, turned_land

FAR = 10 ** 18
NO_FRAMES = (
    None, True, 0, 1, "", "ab", b"ab", [], [1, []], {}, {1: []}, {1, 2}, range(2), object(), int, len, iter((1, [])),
    ValueError(1, []), (), (1,), ([],), (1, [], []), (1, [], None), ((1, []),), ([], 1), (1, ()), (1, ((0, 0, 0),)),
    (1, None), (1, 0), (1, ""), (1, {}), (1, {0: (0, 0, 0)}), (1, range(0)), (1, object()), (0, []), (13, []),
    (-1, []), (10 ** 60, []), (-10 ** 60, []), (True, []), (False, []), (None, []), ("1", []), ([1], []), ((1,), []),
    ({}, []), (object(), []), (1, [(0, 0, 0)] * 41), (12, [(0, 0, 0)] * 200), (1, [None] * 41), (0, [None]),
    (13, [(0, 0, 0)]), (True, [(0, 0, 0)]),
)
NO_WAYS = (
    None, True, 0, "", "000", b"000", [], [0, 0, 0], {}, {0: 0, 1: 0, 2: 0}, {0, 1}, range(3), object(), int,
    iter((0, 0, 0)), (), (0,), (0, 0), (0, 0, 0, 0), ((0, 0, 0),), (3, 0, 0), (0, 3, 0), (-1, 0, 0), (0, -1, 0),
    (0, 0, FAR + 1), (0, 0, -FAR - 1), (0, 0, 10 ** 60), (10 ** 60, 0, 0), (0, -10 ** 60, 0), (True, 0, 0),
    (0, False, 0), (0, 0, True), (0, 0, False), (None, 0, 0), (0, None, 0), (0, 0, None), ("0", 0, 0), (0, "0", 0),
    (0, 0, "0"), ([0], 0, 0), (0, (0,), 0), (0, 0, [0]), (0, 0, {}), (0, 0, object()),
)
LANDS = (
    (1, []), (12, []), (1, [(0, 0, 0)]), (2, [(0, 1, FAR), (1, 0, -FAR)]), (3, [(2, 2, -5)] * 3),
    (12, [(11, 0, 1), (0, 11, -1)] * 20),
)


class LandOfTest(unittest.TestCase):
    def refused_at(self, thing):
        with self.assertRaises(BadLand) as taken:
            land_of(thing)
        self.assertIs(taken.exception.at.__class__, int)
        return taken.exception.at

    def test_lands(self):
        for land in LANDS:
            told = land_of(land)
            self.assertEqual(told, land)
            self.assertIs(told.__class__, tuple)
            self.assertIs(told[1].__class__, list)
            self.assertIsNot(told[1], land[1])

    def test_every_number_of_places(self):
        for many in range(1, 13):
            ways = [(start, end, start - end) for start in range(many) for end in (0, many - 1)]
            self.assertEqual(land_of((many, ways)), (many, ways))
            for way in ((many, 0, 0), (0, many, 0)):
                self.assertEqual(self.refused_at((many, ways + [way])), len(ways) + 1)

    def test_no_tuple_of_a_number_and_a_list(self):
        for thing in NO_FRAMES:
            with self.subTest(repr(thing)[:60]):
                self.assertEqual(self.refused_at(thing), 0)

    def test_no_way(self):
        good = (2, 1, -4)
        for thing in NO_WAYS:
            with self.subTest(repr(thing)[:60]):
                self.assertEqual(self.refused_at((3, [thing])), 1)
                self.assertEqual(self.refused_at((3, [good, good, thing, good])), 3)
                self.assertEqual(self.refused_at((3, [good] * 39 + [thing])), 40)

    def test_the_first_that_is_no_way(self):
        self.assertEqual(self.refused_at((3, [(0, 1, 2), None, (0, 3, 0), "x"])), 2)
        self.assertEqual(self.refused_at((3, [(3, 3, 3)] * 40)), 1)

    def test_the_frame_goes_ahead_of_the_ways(self):
        self.assertEqual(self.refused_at((13, [None])), 0)
        self.assertEqual(self.refused_at((3, [None] * 41)), 0)

    def test_the_list_is_the_askers_own(self):
        handed = (2, [(0, 1, 5)])
        told = land_of(handed)
        handed[1].append((1, 0, 3))
        self.assertEqual(told, (2, [(0, 1, 5)]))
        told[1].clear()
        self.assertEqual(handed, (2, [(0, 1, 5), (1, 0, 3)]))
        self.assertEqual(land_of(handed), handed)


class TurnedLandTest(unittest.TestCase):
    def test_starts_and_ends_exchanged(self):
        land = (3, [(0, 1, 5), (1, 1, -2), (2, 0, FAR), (0, 1, 5)])
        self.assertEqual(turned_land(land), (3, [(1, 0, 5), (1, 1, -2), (0, 2, FAR), (1, 0, 5)]))

    def test_twice(self):
        for land in LANDS:
            told = turned_land(land)
            self.assertEqual(land_of(told), told)
            self.assertEqual(turned_land(told), land)
            self.assertIsNot(told[1], land[1])

    def test_somewhat_beyond_the_bounds(self):
        self.assertEqual(turned_land((13, [(12, 0, FAR + 1)] * 41)), (13, [(0, 12, FAR + 1)] * 41))


if __name__ == "__main__":
    unittest.main()
