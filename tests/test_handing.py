"""Point [2]: what is handed in stays as it is, what is told is the asker's own."""

import copy
import unittest

from trudge import errors
from trudge.boundless import boundless, is_open_lid, reaching
from trudge.effects import changes_by, effect_of, is_effect, joined, mirrored, passed, repeated
from trudge.floors import is_floor
from trudge.highest import highest, trips_to
from trudge.lands import land_of, turned_land
from trudge.least import least, trips_on
from trudge.lids import is_lid
from trudge.plans import cheapest, paid
from trudge.prices import costs_to, is_price_floor
from trudge.shares import needs_of, shared
from trudge.soon import is_showing, soonest
from trudge.springs import highest_by, is_spring_lid, trip_by
from trudge.steps import levels_along, stepped
from trudge.stores import least_store
from trudge.trips import arrival, backward, effect_by, end_of, length_of
from walking import chain_of_fillings

LAND = (4, [(0, 1, 9), (1, 0, -8), (1, 2, -3), (2, 2, 2), (0, 2, -20), (1, 3, 0)])
TRIP = [([0, 1], 5), ([0, 2], 1), ([3], 7)]
PLAN = [("way", 0), ("buy", 2), ("way", 1), ("buy", 8), ("way", 4)]
PRICES = [2, 1, None, 0]
SPRINGS = [(2, 4), (0, 11), (3, 2)]
BASE = [0, None, None, None]
WALKERS = [((2, 0), (2, 20)), ((0, 0), (3, 20)), ((2, 3), (2, 5))]

ASKINGS = (
    (stepped, (10, 4, 3)),
    (stepped, (10, 4, -5)),
    (levels_along, (10, 4, [3, -7, 20, -11, 5])),
    (levels_along, (10, 4, [])),
    (effect_of, (10, [3, -7, 20, -10])),
    (effect_of, (10, [-11])),
    (effect_of, (10, [])),
    (is_effect, (10, (3, -2, 6))),
    (is_effect, (10, [3, -2, 6])),
    (is_effect, (10, ([3], {}, [6]))),
    (changes_by, (10, (3, -2, 6))),
    (passed, ((3, -2, 6), 5)),
    (passed, ((3, -2, 6), 2)),
    (joined, ((3, -3, 7), (7, -7, 3))),
    (joined, ((3, -3, 7), (8, -8, 2))),
    (repeated, (10, (3, -2, 6), 3)),
    (repeated, (10, (3, -2, 6), 10 ** 24)),
    (mirrored, (10, (3, -2, 6))),
    (land_of, (LAND,)),
    (turned_land, (LAND,)),
    (end_of, (LAND, 0, TRIP)),
    (length_of, (LAND, 0, TRIP)),
    (effect_by, (LAND, 20, 0, TRIP)),
    (arrival, (LAND, 20, 0, 3, TRIP)),
    (backward, (TRIP,)),
    (backward, ([],)),
    (highest, (LAND, 20, [0, None, None, None])),
    (highest, (LAND, 20, [20, 20, 20, 20])),
    (highest, ((2, []), 20, [None, 3])),
    (trips_to, (LAND, 20, [0, None, None, None])),
    (trips_to, (LAND, 20, [20, 20, 20, None])),
    (trips_to, (chain_of_fillings(12, 7), 7, [0] + [None] * 11)),
    (trips_to, ((2, []), 20, [None, 3])),
    (is_lid, (LAND, 20, [0, None, None, None], [20, 20, 20, 20])),
    (is_lid, (LAND, 20, [0, None, None, None], [12, 20, 20, 20])),
    (is_lid, (LAND, 20, [0, None, None, None], [[20], {}, [20], 20])),
    (least, (LAND, 20, [None, None, None, 20])),
    (least, (LAND, 20, [0, 0, 0, 0])),
    (least, ((2, []), 20, [None, 3])),
    (trips_on, (LAND, 20, [None, None, 20, None])),
    (trips_on, (LAND, 20, [0, 0, 0, None])),
    (trips_on, (chain_of_fillings(12, 7), 7, [None] * 11 + [7])),
    (trips_on, ((2, []), 20, [None, 3])),
    (is_floor, (LAND, 20, [None, None, None, 20], [0, 0, 0, 0])),
    (is_floor, (LAND, 20, [None, None, None, 20], [20, 20, 20, 20])),
    (is_floor, (LAND, 20, [None, None, None, 20], [[0], {}, [0], 0])),
    (least_store, (LAND, (0, 0), (2, 15))),
    (least_store, (LAND, (2, 0), (0, 15))),
    (soonest, (LAND, 20, (0, 0), (2, 15), 200)),
    (soonest, (LAND, 20, (0, 0), (0, 0), 7)),
    (soonest, (LAND, 20, (2, 0), (0, 15), 7)),
    (soonest, ((1, []), 20, (0, 0), (0, 15), 7)),
    (is_showing, (LAND, 20, (0, 0), (2, 15), [[0, None, None, None], [None, 9, None, None]])),
    (is_showing, (LAND, 20, (0, 0), (2, 15), [[[0], None, {}, None], [[]]])),
    (boundless, (LAND, [0, None, None, None])),
    (boundless, (LAND, [None, None, 7, 3])),
    (boundless, ((2, []), [None, 3])),
    (reaching, (LAND, [0, None, None, None], 2, 10 ** 18)),
    (reaching, (LAND, [0, None, None, None], 0, 0)),
    (reaching, (LAND, [None, None, 0, None], 0, 0)),
    (reaching, (chain_of_fillings(12, 7), [0] + [None] * 11, 11, 50)),
    (is_open_lid, (LAND, [0, None, None, None], ["any", "any", "any", "any"])),
    (is_open_lid, (LAND, [0, None, None, None], ["any", 3, [], {}])),
    (paid, (LAND, 20, PRICES, (0, 9), PLAN)),
    (paid, (LAND, 20, PRICES, (0, 9), [])),
    (costs_to, (LAND, 20, PRICES, (2, 13))),
    (costs_to, ((2, []), 5, [1, None], (0, 3))),
    (cheapest, (LAND, 20, PRICES, (0, 0), (2, 13))),
    (cheapest, (LAND, 20, PRICES, (0, 0), (3, 20))),
    (cheapest, (LAND, 20, PRICES, (2, 0), (0, 1))),
    (cheapest, (LAND, 20, PRICES, (2, 0), (2, 0))),
    (is_price_floor, ((2, []), 1, [1, None], (0, 1), [[1, 0], [None, None]])),
    (is_price_floor, ((2, []), 1, [1, None], (0, 1), [[[1], 0], [{}, None]])),
    (highest_by, (LAND, 20, SPRINGS, BASE)),
    (highest_by, (LAND, 20, [], [None, 3, None, 5])),
    (highest_by, ((2, []), 20, [(0, 1), (0, 1), (1, 1)], [None, 3])),
    (trip_by, (LAND, 20, SPRINGS, BASE, 3, 2)),
    (trip_by, (LAND, 20, SPRINGS, BASE, 6, 3)),
    (trip_by, (LAND, 20, SPRINGS, BASE, 0, 3)),
    (trip_by, (LAND, 20, SPRINGS, [None, None, 4, None], 2, 3)),
    (trip_by, (chain_of_fillings(9, 7), 7, [(8, 1), (0, 1), (4, 2)], [0] + [None] * 8, 7, 8)),
    (is_spring_lid, (LAND, 20, [(2, 4)], BASE, [[20, 20, 20, 20], [20, 20, 20, 20]])),
    (is_spring_lid, (LAND, 20, [(2, 4)], BASE, [[20, 20, 20, 20], [0, 20, {}, []]])),
    (needs_of, ((1, []), 20, [(0, 3), (0, 3), (0, 5)], ((0, 0), (0, 5)))),
    (needs_of, ((1, []), 20, [], ((0, 0), (0, 5)))),
    (shared, (LAND, 20, SPRINGS, WALKERS)),
    (shared, ((1, []), 20, [(0, 3), (0, 5)], [((0, 0), (0, 3)), ((0, 0), (0, 5))])),
    (shared, ((1, []), 20, [(0, 3), (0, 5)], [((0, 0), (0, 5)), ((0, 0), (0, 5)), ((0, 0), (0, 5))])),
)
REFUSED = (
    (land_of, (5,)),
    (land_of, ((3, [(0, 1, 2), [0, 1, 2]]),)),
    (end_of, (LAND, 0, [([0], 1), ([0], 1)])),
    (length_of, (LAND, 0, [([0], 1), ([], 1)])),
    (effect_by, (LAND, 20, 0, [([0], 2)])),
    (arrival, (LAND, 20, 0, 3, [([0, 1], 0)])),
    (paid, (LAND, 20, PRICES, (0, 9), PLAN + [("buy", 0)])),
)


def lists_within(thing):
    """Each list and dict in a thing, those within others and within tuples too."""
    found = [thing] if isinstance(thing, (list, dict)) else []
    if isinstance(thing, (list, tuple)):
        for part in thing:
            found += lists_within(part)
    if isinstance(thing, dict):
        for part in thing.values():
            found += lists_within(part)
    return found


def spoil(told):
    for found in lists_within(told):
        if isinstance(found, dict):
            found["spoilt"] = "spoilt"
        else:
            found.append("spoilt")
            found[0] = "spoilt"


class HandingTest(unittest.TestCase):
    def test_nothing_handed_in_is_changed(self):
        for ask, handed in ASKINGS:
            ahead = copy.deepcopy(handed)
            ask(*handed)
            self.assertEqual(handed, ahead, ask)

    def test_two_like_askings_tell_the_same(self):
        for ask, handed in ASKINGS:
            self.assertEqual(repr(ask(*handed)), repr(ask(*copy.deepcopy(handed))), ask)

    def test_told_lists_are_the_askers_own(self):
        for ask, handed in ASKINGS:
            told = ask(*handed)
            kept = copy.deepcopy(told)
            ahead = copy.deepcopy(handed)
            spoil(told)
            self.assertEqual(handed, ahead, ask)
            self.assertEqual(ask(*handed), kept, ask)

    def test_told_lists_are_new_and_none_stands_twice(self):
        for ask, handed in ASKINGS:
            # Both answers are kept, so that no list takes the place of another one that is gone.
            both = (ask(*handed), ask(*handed))
            told = [id(found) for found in lists_within(both)]
            self.assertEqual(len(told), len(set(told)), ask)
            self.assertFalse(set(told) & {id(found) for found in lists_within(handed)}, ask)

    def test_what_is_refused_changes_nothing(self):
        for ask, handed in REFUSED:
            ahead = copy.deepcopy(handed)
            self.assertRaises(errors.TrudgeError, ask, *handed)
            self.assertEqual(handed, ahead, ask)

    def test_what_is_done_behind_the_call_changes_nothing(self):
        changes = [3, -7, 20]
        levels = levels_along(10, 4, changes)
        effect = effect_of(10, changes)
        changes.append(-11)
        changes[0] = -5
        self.assertEqual(levels, [4, 7, 0, 10])
        self.assertEqual(effect, (4, 16, 10))

    def test_told_kinds(self):
        self.assertIs(levels_along(10, 4, [1]).__class__, list)
        self.assertIs(changes_by(10, (3, -2, 6)).__class__, list)
        for effect in (effect_of(10, [1]), joined((0, 0, 5), (0, 0, 5)), repeated(5, (0, 0, 5), 2),
                       mirrored(5, (0, 0, 5))):
            self.assertIs(effect.__class__, tuple)
            self.assertEqual([part.__class__ for part in effect], [int] * 3)

    def test_what_was_told_may_be_handed_in_whatever_its_size(self):
        store = 10 ** 20
        effect = repeated(store, (5, 10 ** 60 - 1, 9), 10 ** 24)
        for times in range(6):
            effect = repeated(store, effect, 10 ** 24)
        gain = (10 ** 60 - 1) * 10 ** 168
        self.assertEqual(effect, (5, gain, 9))
        self.assertIs(is_effect(store, effect), True)
        self.assertEqual(effect_of(store, changes_by(store, effect)), effect)
        self.assertEqual(joined(effect, effect), (5, 2 * gain, 9))
        self.assertEqual(mirrored(store, mirrored(store, effect)), effect)
        self.assertEqual([passed(effect, level) for level in (4, 5, store)], [None, 9, 9])
        self.assertEqual(levels_along(store, 5, changes_by(store, effect)), [5, 0, store, 9])

    def test_a_refusal_keeps_the_very_thing(self):
        thing = [1]
        refusal = errors.Taken(thing)
        thing.append(2)
        self.assertIs(refusal.label, thing)


if __name__ == "__main__":
    unittest.main()
