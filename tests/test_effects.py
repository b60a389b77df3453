"""Points [6], [7] and [8], and of point [4] what it says of a row of changes."""

import itertools
import unittest

from trudge.effects import changes_by, effect_of, is_effect, joined, mirrored, passed, repeated
from walking import (
    drawn_rows, effect_by_sums, effect_by_walking, every_effect, repeated_by_rule, small_rows, walked,
)

FULL = 10 ** 20
GREAT = 10 ** 60 - 1
MOST_TIMES = 10 ** 24


class EffectOfTest(unittest.TestCase):
    def test_no_changes(self):
        for store in (0, 1, 10, FULL):
            self.assertEqual(effect_of(store, []), (0, 0, store))

    def test_told_ones(self):
        self.assertEqual(effect_of(10, [-3]), (3, -3, 7))
        self.assertEqual(effect_of(10, [3]), (0, 3, 10))
        self.assertEqual(effect_of(10, [-3, 5, -4]), (3, -2, 6))
        self.assertEqual(effect_of(10, [-10, 10]), (10, 0, 10))
        self.assertEqual(effect_of(10, [10, -10]), (0, 0, 0))

    def test_none_where_not_even_the_full_store_gets_through(self):
        self.assertIsNone(effect_of(10, [-11]))
        self.assertIsNone(effect_of(10, [-6, -5, 100]))
        self.assertIsNone(effect_of(10, [100, -11, 100]))
        self.assertIsNone(effect_of(0, [5, -1]))
        self.assertIsNone(effect_of(10, [-11, 50]))

    def test_store_of_nothing(self):
        self.assertEqual(effect_of(0, [0]), (0, 0, 0))
        self.assertEqual(effect_of(0, [7, 0, 2]), (0, 9, 0))
        self.assertIsNone(effect_of(0, [-1]))

    def test_small_rows_against_walking(self):
        for store in range(5):
            for row in small_rows(4, 3):
                self.assertEqual(effect_of(store, row), effect_by_walking(store, row), (store, row))

    def test_far_changes_against_walking(self):
        for store in range(4):
            for row in small_rows(3, 6):
                self.assertEqual(effect_of(store, row), effect_by_walking(store, row), (store, row))

    def test_level_behind_from_each_level(self):
        for store in range(5):
            for row in small_rows(3, 4):
                effect = effect_of(store, row)
                for level in range(store + 1):
                    behind = None
                    if effect is not None and level >= effect[0]:
                        behind = min(level + effect[1], effect[2])
                    self.assertEqual(walked(store, level, row), behind, (store, row, level))

    def test_long_rows_against_walking(self):
        for row in drawn_rows(1, 60, 200, 4):
            for store in (7, 20, 45):
                self.assertEqual(effect_of(store, row), effect_by_walking(store, row), (store, row))

    def test_great_changes(self):
        self.assertEqual(effect_of(FULL, [GREAT]), (0, GREAT, FULL))
        self.assertEqual(effect_of(FULL, [GREAT] * 200), (0, 200 * GREAT, FULL))
        self.assertEqual(effect_of(FULL, [GREAT, -FULL]), (0, GREAT - FULL, 0))
        self.assertEqual(effect_of(FULL, [-FULL, GREAT]), (FULL, GREAT - FULL, FULL))
        self.assertIsNone(effect_of(FULL, [GREAT, -FULL - 1]))
        self.assertIsNone(effect_of(FULL, [-GREAT, GREAT]))

    def test_great_stores(self):
        through = 0
        for reach in (10 ** 17, 10 ** 18, 10 ** 19, 10 ** 20, GREAT):
            for row in drawn_rows(reach, 40, 200, reach):
                effect = effect_of(FULL, row)
                self.assertEqual(effect, effect_by_sums(FULL, row))
                self.assertEqual(effect is None, walked(FULL, FULL, row) is None)
                if effect is None:
                    continue
                through += 1
                self.assertIs(is_effect(FULL, effect), True)
                self.assertEqual(effect[2], walked(FULL, FULL, row))
                self.assertIsNotNone(walked(FULL, effect[0], row))
                if effect[0] > 0:
                    self.assertIsNone(walked(FULL, effect[0] - 1, row))
        self.assertGreater(through, 60)


class IsEffectTest(unittest.TestCase):
    def test_just_the_effects_of_small_rows(self):
        for store in range(4):
            # A gain of store + 2 may need a middle change of 3 * store + 2.
            met = {effect_by_walking(store, row) for row in small_rows(3, 3 * store + 2)}
            for thing in itertools.product(range(-1, store + 2), range(-store - 2, store + 3), range(-1, store + 2)):
                self.assertIs(is_effect(store, thing), thing in met, (store, thing))

    def test_least_no_level(self):
        self.assertIs(is_effect(10, (0, 5, 3)), True)
        self.assertIs(is_effect(10, (-1, 5, 3)), False)
        self.assertIs(is_effect(10, (10, 5, 3)), True)
        self.assertIs(is_effect(10, (11, 5, 3)), False)

    def test_top_no_level(self):
        self.assertIs(is_effect(10, (4, 5, 0)), True)
        self.assertIs(is_effect(10, (4, 5, -1)), False)
        self.assertIs(is_effect(10, (4, 5, 10)), True)
        self.assertIs(is_effect(10, (4, 5, 11)), False)

    def test_least_and_gain_below_nothing(self):
        self.assertIs(is_effect(10, (4, -4, 3)), True)
        self.assertIs(is_effect(10, (4, -5, 3)), False)

    def test_top_above_store_and_gain(self):
        self.assertIs(is_effect(10, (4, -4, 6)), True)
        self.assertIs(is_effect(10, (4, -4, 7)), False)

    def test_truths(self):
        self.assertIs(is_effect(10, (1, 0, 1)), True)
        for thing in ((True, 0, 1), (False, 0, 1), (1, False, 1), (1, True, 1), (1, 0, True), (1, 0, False)):
            self.assertIs(is_effect(10, thing), False, thing)

    def test_other_kinds(self):
        things = (
            None, True, False, 0, 3, "", "abc", "000", b"abc", [], [1, 0, 1], {}, {0: 1, 1: 0, 2: 1}, {1, 0, 2},
            range(3), object(), int, is_effect, iter((1, 0, 1)), ValueError(1, 0, 1), ((1, 0, 1),), [(1, 0, 1)],
        )
        for thing in things:
            self.assertIs(is_effect(10, thing), False, thing)

    def test_other_kinds_within(self):
        for part in (None, "1", "", [], [1], (), (1,), {}, {1}, object(), int, b"1"):
            for thing in ((part, 0, 1), (1, part, 1), (1, 0, part)):
                self.assertIs(is_effect(10, thing), False, thing)

    def test_parts_more_or_fewer(self):
        for thing in ((), (0,), (0, 0), (0, 0, 0, 0), (0, 0, 10, None)):
            self.assertIs(is_effect(10, thing), False, thing)

    def test_great_numbers(self):
        self.assertIs(is_effect(FULL, (0, GREAT, FULL)), True)
        self.assertIs(is_effect(FULL, (FULL, -FULL, 0)), True)
        self.assertIs(is_effect(FULL, (FULL, 10 ** 5000, 0)), True)
        self.assertIs(is_effect(FULL, (FULL, -10 ** 5000, 0)), False)
        self.assertIs(is_effect(FULL, (10 ** 5000, 0, 0)), False)
        self.assertIs(is_effect(FULL, (FULL + 1, 0, 0)), False)

    def test_store_of_nothing(self):
        self.assertIs(is_effect(0, (0, 0, 0)), True)
        self.assertIs(is_effect(0, (0, 9, 0)), True)
        self.assertIs(is_effect(0, (0, -1, 0)), False)
        self.assertIs(is_effect(0, (0, 0, 1)), False)


class ChangesByTest(unittest.TestCase):
    def test_told_ones(self):
        self.assertEqual(changes_by(10, (3, -2, 6)), [-3, 5, -4])
        self.assertEqual(changes_by(10, (0, 0, 10)), [0, 0, 0])
        self.assertEqual(changes_by(0, (0, 9, 0)), [0, 9, 0])
        self.assertEqual(changes_by(FULL, (FULL, GREAT, 0)), [-FULL, GREAT + 2 * FULL, -FULL])

    def test_their_effect_is_the_effect(self):
        for store in range(6):
            for effect in every_effect(store, 2 * store + 2):
                least, gain, top = effect
                told = changes_by(store, effect)
                self.assertEqual(told, [-least, gain + least + store - top, top - store])
                self.assertEqual(effect_by_walking(store, told), effect)
                self.assertEqual(effect_of(store, told), effect)

    def test_of_great_rows(self):
        for row in drawn_rows(2, 80, 200, 10 ** 18):
            effect = effect_of(FULL, row)
            if effect is not None:
                self.assertEqual(effect_by_sums(FULL, changes_by(FULL, effect)), effect)


class PassedTest(unittest.TestCase):
    def test_around_the_least(self):
        effect = (3, -2, 6)
        self.assertEqual([passed(effect, level) for level in range(11)],
                         [None, None, None, 1, 2, 3, 4, 5, 6, 6, 6])

    def test_against_walking(self):
        for store in range(5):
            for effect in every_effect(store, 2 * store + 2):
                for level in range(store + 1):
                    told = passed(effect, level)
                    self.assertEqual(told, walked(store, level, changes_by(store, effect)), (store, effect, level))

    def test_great_ones(self):
        effect = (FULL - 5, GREAT, 7)
        self.assertIsNone(passed(effect, FULL - 6))
        self.assertEqual(passed(effect, FULL - 5), 7)
        self.assertEqual(passed(effect, FULL), 7)
        self.assertEqual(passed((FULL - 5, 5 - FULL, 3), FULL - 5), 0)

    def test_none_stays_none(self):
        self.assertIsNone(passed(None, 10))


class JoinedTest(unittest.TestCase):
    def test_told_ones(self):
        self.assertEqual(joined((3, -3, 7), (7, -7, 3)), (10, -10, 0))
        self.assertIsNone(joined((3, -3, 7), (8, -8, 2)))
        self.assertEqual(joined((0, 3, 10), (5, -5, 5)), (2, -2, 5))
        self.assertEqual(joined((0, 0, 0), (0, 4, 10)), (0, 4, 4))

    def test_every_small_pair_against_walking_both(self):
        for store in range(4):
            effects = list(every_effect(store, store + 2))
            for one, other in itertools.product(effects, effects):
                row = changes_by(store, one) + changes_by(store, other)
                self.assertEqual(joined(one, other), effect_by_walking(store, row), (store, one, other))

    def test_parted_rows(self):
        for row in drawn_rows(3, 60, 200, 10 ** 18):
            for at in (0, 1, len(row) // 2, len(row)):
                one = effect_of(FULL, row[:at])
                other = effect_of(FULL, row[at:])
                if one is not None and other is not None:
                    self.assertEqual(joined(one, other), effect_by_sums(FULL, row))

    def test_great_ones(self):
        self.assertEqual(joined((0, GREAT, FULL), (FULL, -FULL, 0)), (0, GREAT - FULL, 0))
        self.assertIsNone(joined((FULL, -FULL, 0), (1, GREAT, FULL)))

    def test_none_stays_none(self):
        for one, other in ((None, (0, 0, 5)), ((0, 0, 5), None), (None, None)):
            self.assertIsNone(joined(one, other))


class RepeatedTest(unittest.TestCase):
    def test_no_times_and_once(self):
        for store in range(5):
            for effect in every_effect(store, store + 2):
                self.assertEqual(repeated(store, effect, 0), (0, 0, store))
                self.assertEqual(repeated(store, effect, 1), effect)

    def test_a_few_times_against_the_row_written_out(self):
        for store in range(5):
            for effect in every_effect(store, store + 2):
                for times in range(10):
                    row = changes_by(store, effect) * times
                    self.assertEqual(repeated(store, effect, times), effect_by_walking(store, row),
                                     (store, effect, times))

    def test_small_ones_many_times(self):
        for store in range(4):
            for effect in every_effect(store, store + 1):
                for times in (31, 32, 33, 10 ** 9, MOST_TIMES - 1, MOST_TIMES):
                    self.assertEqual(repeated(store, effect, times), repeated_by_rule(store, effect, times),
                                     (store, effect, times))

    def test_just_so_many_times_as_the_store_lasts(self):
        once = (1, -1, FULL - 1)
        self.assertEqual(repeated(FULL, once, FULL), (FULL, -FULL, 0))
        self.assertEqual(repeated(FULL, once, FULL - 1), (FULL - 1, 1 - FULL, 1))
        self.assertIsNone(repeated(FULL, once, FULL + 1))
        self.assertIsNone(repeated(FULL, once, MOST_TIMES))

    def test_great_gains(self):
        self.assertEqual(repeated(FULL, (5, GREAT, 9), MOST_TIMES), (5, GREAT * MOST_TIMES, 9))
        self.assertIsNone(repeated(FULL, (9, GREAT, 5), MOST_TIMES))
        self.assertEqual(repeated(FULL, (9, GREAT, 5), 1), (9, GREAT, 5))
        self.assertEqual(repeated(FULL, (9, 0, 9), MOST_TIMES), (9, 0, 9))

    def test_many_times_against_joining(self):
        rows = list(drawn_rows(4, 25, 6, 3)) + list(drawn_rows(5, 25, 6, 10 ** 7))
        effects = [effect_of(FULL, row) for row in rows]
        counts = (0, 1, 2, 3, 1000, 10 ** 13, 10 ** 19 + 7, 10 ** 20, 10 ** 23 + 1)
        for effect in effects:
            for one, other in itertools.product(counts, counts):
                first = repeated(FULL, effect, one)
                second = repeated(FULL, effect, other)
                whole = repeated(FULL, effect, one + other)
                self.assertEqual(whole, repeated_by_rule(FULL, effect, one + other))
                if first is None or second is None:
                    self.assertIsNone(whole)
                else:
                    self.assertEqual(joined(first, second), whole, (effect, one, other))

    def test_repeated_again(self):
        for effect in ((1, -1, FULL - 1), (4, 3, 10 ** 19), (7, 0, 8), (6, -5, 10 ** 19)):
            for one, other in ((2, 3), (10 ** 6, 10 ** 7), (10 ** 12, 10 ** 12)):
                first = repeated(FULL, effect, one)
                if first is not None:
                    self.assertEqual(repeated(FULL, first, other), repeated(FULL, effect, one * other))

    def test_none_stays_none(self):
        self.assertEqual(repeated(5, None, 0), (0, 0, 5))
        for times in (1, 2, MOST_TIMES):
            self.assertIsNone(repeated(5, None, times))


class MirroredTest(unittest.TestCase):
    def test_told_ones(self):
        self.assertEqual(mirrored(10, (3, -2, 6)), (4, -2, 7))
        self.assertEqual(mirrored(10, (0, 0, 10)), (0, 0, 10))
        self.assertEqual(mirrored(FULL, (FULL, GREAT, 0)), (FULL, GREAT, 0))

    def test_effect_of_the_opposite_row(self):
        for store in range(5):
            for row in small_rows(4, 3):
                self.assert_opposite(store, row, effect_by_walking(store, row[::-1]))

    def test_great_opposite_rows(self):
        for reach in (10 ** 18, 10 ** 19, GREAT):
            for row in drawn_rows(reach + 1, 60, 200, reach):
                self.assert_opposite(FULL, row, effect_by_sums(FULL, row[::-1]))

    def assert_opposite(self, store, row, opposite):
        effect = effect_of(store, row)
        if effect is None:
            self.assertIsNone(opposite, (store, row))
        else:
            self.assertEqual(mirrored(store, effect), opposite, (store, row))

    def test_twice(self):
        for store in range(5):
            for effect in every_effect(store, store + 2):
                turned = mirrored(store, effect)
                self.assertIs(is_effect(store, turned), True)
                self.assertEqual(mirrored(store, turned), effect)

    def test_what_must_be_had_ahead(self):
        for store in range(5):
            for effect in every_effect(store, store + 2):
                turned = mirrored(store, effect)
                for level, wanted in itertools.product(range(store + 1), repeat=2):
                    ahead = passed(effect, level)
                    back = passed(turned, store - wanted)
                    self.assertEqual(ahead is not None and ahead >= wanted,
                                     back is not None and back >= store - level)

    def test_joined_and_repeated_are_mirrored(self):
        for store in range(3):
            effects = list(every_effect(store, store + 2))
            for one, other in itertools.product(effects, effects):
                self.assertEqual(mirrored(store, joined(one, other)),
                                 joined(mirrored(store, other), mirrored(store, one)))
            for effect in effects:
                self.assertEqual(mirrored(store, repeated(store, effect, MOST_TIMES)),
                                 repeated(store, mirrored(store, effect), MOST_TIMES))


if __name__ == "__main__":
    unittest.main()
