"""Points [10] and [11]: trips, and trips read backward."""

import random
import unittest

from trudge.effects import mirrored
from trudge.errors import BadTrip
from trudge.lands import turned_land
from trudge.trips import arrival, backward, effect_by, end_of, length_of
from walking import drawn_land, effect_by_sums, effect_by_walking, level_behind, numbers_walked, place_behind, walked

FULL = 10 ** 20
MOST_TIMES = 10 ** 24
# From 0 to 1 and back, a way that stays at 1, and on to 2, from where no way leads.
LAND = (3, [(0, 1, 4), (1, 0, -3), (1, 1, -1), (1, 2, -2), (0, 1, 4)])
TRIPS = (
    (0, [], 0, 0),
    (2, [], 2, 0),
    (0, [([0], 1)], 1, 1),
    (0, [([0, 1], 1)], 0, 2),
    (0, [([0, 1], 7)], 0, 14),
    (0, [([4, 1, 0, 1], 2), ([0], 1), ([2], 5), ([3], 1)], 2, 15),
    (1, [([1, 0], MOST_TIMES), ([2], MOST_TIMES), ([2, 3], 1)], 2, 3 * MOST_TIMES + 2),
    (1, [([2], 1)] * 80, 1, 80),
    (1, [([2] * 40, 3)], 1, 120),
)
# Trips from 0 that are refused, with the field.
REFUSED = (
    ([([], 1)], 0),
    ([([0], 1), ([], 1)], 1),
    ([([], 0)], 0),
    ([([5], 1)], 0),
    ([([-1], 1)], 0),
    ([([-5], 1)], 0),
    ([([10 ** 60], 1)], 0),
    ([([0, 5], 1)], 0),
    ([([0, -4], 1)], 0),
    ([([0, 0], 1)], 0),
    ([([0, 1, 3], 1)], 0),
    ([([0], 0)], 0),
    ([([0], -1)], 0),
    ([([0, 1], 0)], 0),
    ([([0, 1], MOST_TIMES + 1)], 0),
    ([([0, 1], 10 ** 60)], 0),
    ([([0, 1], -10 ** 60)], 0),
    ([([0], 2)], 0),
    ([([0, 3], 2)], 0),
    ([([0, 2], 2)], 0),
    ([([1], 1)], 0),
    ([([2], 3)], 0),
    ([([1, 0], 2)], 0),
    ([([0], 1), ([0], 1)], 1),
    ([([0], 1), ([2], 9), ([0], 1)], 2),
    ([([0], 1), ([3], 1), ([1], 1)], 2),
    ([([0], 1), ([3], 1), ([7], 1), ([], 0)], 2),
    ([([0, 1], 5)] * 79 + [([0, 1], 0)], 79),
    ([([1], 1), ([], 1)], 0),
)


def refusals(land, store, place, level, trip):
    """What each of the four that refuse does with a trip: the field, or the told."""
    asked = (
        lambda: end_of(land, place, trip), lambda: length_of(land, place, trip),
        lambda: effect_by(land, store, place, trip), lambda: arrival(land, store, place, level, trip),
    )
    told = []
    for ask in asked:
        try:
            told.append(("told", ask()))
        except BadTrip as refusal:
            told.append(("refused", refusal.at))
    return told


def drawn_part(draw, land, place, times):
    numbers = []
    here = place
    for step in range(draw.randint(1, 8)):
        ahead = [number for number, way in enumerate(land[1]) if way[0] == here]
        if not ahead:
            break
        numbers.append(draw.choice(ahead))
        here = land[1][numbers[-1]][1]
        if here == place and draw.random() < 0.7:
            return (numbers, draw.choice(times))
    return (numbers, 1) if numbers else None


def drawn_trips(seed, many, reach, times):
    draw = random.Random(seed)
    for number in range(many):
        land = drawn_land(draw, 4, 12, reach)
        place = begin = draw.randrange(land[0])
        trip = []
        for step in range(draw.randint(0, 6)):
            part = drawn_part(draw, land, place, times)
            if part is not None:
                trip.append(part)
                place = place_behind(land, place, [part])
        yield (land, begin, place, trip)


class WrittenTripsTest(unittest.TestCase):
    def test_ends_and_lengths(self):
        for place, trip, end, length in TRIPS:
            self.assertEqual(end_of(LAND, place, trip), end, trip)
            self.assertEqual(length_of(LAND, place, trip), length, trip)

    def test_staying(self):
        for store in (0, 5, FULL):
            self.assertEqual(effect_by(LAND, store, 2, []), (0, 0, store))
            self.assertEqual(arrival(LAND, store, 2, 0, []), 0)
            self.assertEqual(arrival(LAND, store, 2, store, []), store)

    def test_effects(self):
        self.assertEqual(effect_by(LAND, 10, 0, [([0], 1)]), (0, 4, 10))
        self.assertEqual(effect_by(LAND, 10, 0, [([0, 1], 3)]), (0, 3, 7))
        self.assertEqual(effect_by(LAND, 10, 1, [([1, 0], 3)]), (3, 3, 10))
        self.assertEqual(effect_by(LAND, 10, 1, [([2], 4), ([3], 1)]), (6, -6, 4))
        self.assertIsNone(effect_by(LAND, 10, 1, [([2], 11)]))
        self.assertIsNone(effect_by(LAND, 10, 1, [([2], 9), ([3], 1)]))
        self.assertIsNone(effect_by(LAND, 2, 1, [([1], 1)]))

    def test_arrivals(self):
        trip = [([2], 4), ([3], 1)]
        self.assertEqual([arrival(LAND, 10, 1, level, trip) for level in range(11)],
                         [None] * 6 + [0, 1, 2, 3, 4])
        self.assertEqual(arrival(LAND, 10, 0, 0, [([0, 1], 6)]), 6)
        self.assertEqual(arrival(LAND, 10, 0, 0, [([0, 1], 7)]), 7)
        self.assertEqual(arrival(LAND, 10, 0, 0, [([0, 1], 8)]), 7)
        self.assertEqual(arrival(LAND, 10, 0, 0, [([0, 1], 8), ([0], 1)]), 10)

    def test_great_times(self):
        loop = (1, [(0, 0, -1), (0, 0, 1)])
        self.assertEqual(effect_by(loop, FULL, 0, [([0], FULL)]), (FULL, -FULL, 0))
        self.assertIsNone(effect_by(loop, FULL, 0, [([0], FULL + 1)]))
        self.assertIsNone(effect_by(loop, FULL, 0, [([0], MOST_TIMES)]))
        self.assertEqual(effect_by(loop, FULL, 0, [([1], MOST_TIMES), ([0], FULL)]), (0, MOST_TIMES - FULL, 0))
        self.assertEqual(arrival(loop, FULL, 0, 3, [([1], FULL - 4)]), FULL - 1)
        self.assertEqual(arrival(loop, FULL, 0, 3, [([1], MOST_TIMES), ([0], 7)]), FULL - 7)
        self.assertEqual(length_of(loop, 0, [([1, 0] * 20, MOST_TIMES)] * 80), 3200 * MOST_TIMES)

    def test_more_parts_and_ways_than_are_written(self):
        loop = (1, [(0, 0, 1)])
        trip = [([0] * 41, 2)] * 81
        self.assertEqual(end_of(loop, 0, trip), 0)
        self.assertEqual(arrival(loop, FULL, 0, 0, trip), 41 * 2 * 81)


class RefusalTest(unittest.TestCase):
    def test_field(self):
        for trip, at in REFUSED:
            for level in (0, 10):
                self.assertEqual(refusals(LAND, 10, 0, level, trip), [("refused", at)] * 4, trip)

    def test_the_place_counts(self):
        self.assertEqual(refusals(LAND, 10, 1, 10, [([0], 1)]), [("refused", 0)] * 4)
        self.assertEqual(refusals(LAND, 10, 2, 10, [([0, 1], 2)]), [("refused", 0)] * 4)

    def test_also_where_a_part_ahead_cannot_be_walked(self):
        for wrong in (([], 1), ([0], 1), ([9], 1), ([2], 0), ([3], 2), ([2], MOST_TIMES + 1)):
            for ahead in ([([2], 11)], [([1], 1), ([0], 1), ([2], MOST_TIMES)], [([2], 1)]):
                told = refusals(LAND, 2, 1, 0, ahead + [wrong])
                self.assertEqual(told, [("refused", len(ahead))] * 4, (ahead, wrong))

    def test_a_land_without_ways(self):
        self.assertEqual(refusals((1, []), 5, 0, 5, [([0], 1)]), [("refused", 0)] * 4)
        self.assertEqual(refusals((1, []), 5, 0, 4, []),
                         [("told", 0), ("told", 0), ("told", (0, 0, 5)), ("told", 4)])


class WalkedTest(unittest.TestCase):
    def test_small_times_against_walking_way_by_way(self):
        through = 0
        for land, place, end, trip in drawn_trips(1, 2000, 4, (1, 2, 3, 5)):
            changes = [land[1][number][2] for number in numbers_walked(trip)]
            self.assertEqual(end_of(land, place, trip), end)
            self.assertEqual(length_of(land, place, trip), len(changes))
            for store in (0, 3, 9, 15):
                effect = effect_by(land, store, place, trip)
                self.assertEqual(effect, effect_by_walking(store, changes), (land, store, trip))
                through += effect is not None and len(changes) > 0
                for level in range(store + 1):
                    self.assertEqual(arrival(land, store, place, level, trip), walked(store, level, changes))
        self.assertGreater(through, 300)

    def test_great_times_against_the_sums(self):
        times = (1, 2, 10 ** 6, 10 ** 12, 10 ** 20 // 3, 10 ** 20, MOST_TIMES)
        through = 0
        for reach in (2, 10 ** 6, 10 ** 18):
            for land, place, end, trip in drawn_trips(reach, 300, reach, times):
                self.assertEqual(end_of(land, place, trip), end)
                self.assertEqual(length_of(land, place, trip), sum(len(part[0]) * part[1] for part in trip))
                for store, level in ((FULL, FULL), (FULL, FULL // 2), (FULL, 0), (10 ** 18, 10 ** 18), (5, 5)):
                    told = arrival(land, store, place, level, trip)
                    self.assertEqual(told, level_behind(land, store, level, trip))
                    through += told is not None and len(trip) > 0
        self.assertGreater(through, 300)

    def test_great_effects(self):
        for land, place, end, trip in drawn_trips(5, 200, 10 ** 18, (1, 2, 3)):
            changes = [land[1][number][2] for number in numbers_walked(trip)]
            self.assertEqual(effect_by(land, FULL, place, trip), effect_by_sums(FULL, changes))


class BackwardTest(unittest.TestCase):
    def test_told_ones(self):
        self.assertEqual(backward([]), [])
        self.assertEqual(backward([([0, 1, 2], 1), ([3, 4], 7)]), [([4, 3], 7), ([2, 1, 0], 1)])

    def test_a_trip_of_the_turned_land(self):
        many = 0
        for reach, times in ((4, (1, 2, 3)), (10 ** 18, (1, 2, 10 ** 20, MOST_TIMES)), (1, (1, 10 ** 19, MOST_TIMES))):
            for land, place, end, trip in drawn_trips(reach + 7, 200, reach, times):
                turned = turned_land(land)
                back = backward(trip)
                self.assertEqual(end_of(turned, end, back), place)
                self.assertEqual(length_of(turned, end, back), length_of(land, place, trip))
                self.assertEqual(backward(back), trip)
                for store in (0, 8, 10 ** 19, FULL):
                    effect = effect_by(land, store, place, trip)
                    opposite = effect_by(turned, store, end, back)
                    if effect is None:
                        self.assertIsNone(opposite)
                    else:
                        many += 1
                        self.assertEqual(opposite, mirrored(store, effect))
        self.assertGreater(many, 300)


if __name__ == "__main__":
    unittest.main()
