"""Point [27], and of point [4] what it says of several walkers."""

import itertools
import random
import unittest

from trudge.shares import needs_of, shared
from trudge.springs import highest_by
from walking import drawn_land, drawn_springs, needs_by_trying, shares_by_trying, small_lands

FAR = 10 ** 18


def drawn_walker(draw, land, store):
    levels = [draw.choice((0, draw.randint(0, store), draw.randint(0, store))) for spot in range(2)]
    return ((draw.randrange(land[0]), levels[0]), (draw.randrange(land[0]), levels[1]))


def share_tasks(seed, many, places, ways, reach, stores):
    """Tuples (land, store, springs, walkers)."""
    draw = random.Random(seed)
    for number in range(many):
        land = drawn_land(draw, places, ways, reach)
        store = draw.choice(stores)
        springs = drawn_springs(draw, land, 4, reach)
        yield (land, store, springs, [drawn_walker(draw, land, store) for walker in range(draw.randint(1, 3))])


class NeedsTest(unittest.TestCase):
    def test_none_is_needed(self):
        self.assertEqual(needs_of((1, []), 9, [], ((0, 5), (0, 5))), [0])
        self.assertEqual(needs_of((1, []), 9, [(0, 1), (0, 2)], ((0, 5), (0, 3))), [0])

    def test_not_even_all_do(self):
        self.assertEqual(needs_of((1, []), 9, [], ((0, 5), (0, 6))), [])
        self.assertEqual(needs_of((1, []), 9, [(0, 1), (0, 2)], ((0, 5), (0, 9))), [])
        self.assertEqual(needs_of((2, []), 9, [(0, 1), (1, 2)], ((0, 5), (1, 0))), [])

    def test_told_ones(self):
        springs = [(0, 1), (0, 2), (0, 4), (0, 8)]
        self.assertEqual(needs_of((1, []), 20, springs, ((0, 0), (0, 1))), [1, 2, 4, 8])
        self.assertEqual(needs_of((1, []), 20, springs, ((0, 0), (0, 3))), [3, 4, 8])
        self.assertEqual(needs_of((1, []), 20, springs, ((0, 0), (0, 7))), [7, 8])
        self.assertEqual(needs_of((1, []), 20, springs, ((0, 0), (0, 10))), [10, 12])
        self.assertEqual(needs_of((1, []), 20, springs, ((0, 0), (0, 15))), [15])
        self.assertEqual(needs_of((1, []), 20, springs, ((0, 0), (0, 16))), [])
        self.assertEqual(needs_of((1, []), 20, springs, ((0, 1), (0, 16))), [15])

    def test_the_greater_number_may_be_no_less_of_a_need(self):
        # The last spring alone does, the first two only together.
        self.assertEqual(needs_of((1, []), 20, [(0, 3), (0, 3), (0, 5)], ((0, 0), (0, 5))), [3, 4])
        self.assertEqual(needs_of((1, []), 20, [(0, 3), (0, 3), (0, 3)], ((0, 0), (0, 5))), [3, 5, 6])

    def test_six_needs(self):
        self.assertEqual(needs_of((1, []), 20, [(0, 3)] * 4, ((0, 0), (0, 6))), [3, 5, 6, 9, 10, 12])

    def test_a_spring_that_lies_off_the_way_may_be_left(self):
        land = (3, [(0, 1, -3), (0, 2, -1)])
        self.assertEqual(needs_of(land, 9, [(2, 5), (0, 3)], ((0, 0), (1, 0))), [2])

    def test_every_small_land_against_each_set(self):
        for land in small_lands(2, 2, 1):
            for springs in ([(0, 1)], [(0, 1), (1, 2)], [(1, 1), (1, 1)]):
                for walker in (((0, 0), (1, 1)), ((0, 0), (0, 2)), ((1, 1), (0, 3))):
                    self.assertEqual(needs_of(land, 3, springs, walker), needs_by_trying(land, 3, springs, walker),
                                     (land, springs, walker))

    def test_drawn_lands_against_each_set(self):
        found = {}
        for reach in (1, 3, 6):
            for land, store, springs, walkers in share_tasks(reach, 150, 5, 8, reach, range(1, 11)):
                for walker in walkers:
                    told = needs_of(land, store, springs, walker)
                    self.assertEqual(told, needs_by_trying(land, store, springs, walker),
                                     (land, store, springs, walker))
                    found[str(told)] = found.get(str(told), 0) + 1
        self.assertGreater(len(found), 15)

    def test_great_lands_against_the_levels(self):
        for reach in (1, 10 ** 9, FAR):
            for land, store, springs, walkers in share_tasks(reach, 60, 9, 16, reach, (10 ** 9, FAR)):
                for walker in walkers:
                    (place, level), (end, enough) = walker
                    base = [level if here == place else None for here in range(land[0])]
                    tables = highest_by(land, store, springs, base)
                    sets = [some for some, table in enumerate(tables)
                            if table[end] is not None and table[end] >= enough]
                    least = [some for some in sets if not any(one != some and one & some == one for one in sets)]
                    self.assertEqual(needs_of(land, store, springs, walker), least)


class SharedTest(unittest.TestCase):
    def assert_shared(self, land, store, springs, walkers):
        told = shared(land, store, springs, walkers)
        needs = [needs_of(land, store, springs, walker) for walker in walkers]
        sets = shares_by_trying(len(springs), needs)
        expected = ("not", needs) if sets is None else ("all", sets)
        self.assertEqual(told, expected, (land, store, springs, walkers))
        return told

    def walkers_up_to(self, *levels):
        return [((0, 0), (0, level)) for level in levels]

    def test_one_walker(self):
        self.assertEqual(shared((1, []), 20, [], self.walkers_up_to(0)), ("all", [0]))
        self.assertEqual(shared((1, []), 20, [], self.walkers_up_to(1)), ("not", [[]]))
        self.assertEqual(shared((1, []), 20, [(0, 3), (0, 5)], self.walkers_up_to(5)), ("all", [2]))
        self.assertEqual(shared((1, []), 20, [(0, 3), (0, 5)], self.walkers_up_to(3)), ("all", [1]))
        self.assertEqual(shared((1, []), 20, [(0, 3), (0, 5)], self.walkers_up_to(9)), ("not", [[]]))

    def test_two_walkers(self):
        springs = [(0, 3), (0, 5)]
        self.assertEqual(shared((1, []), 20, springs, self.walkers_up_to(3, 3)), ("all", [1, 2]))
        self.assertEqual(shared((1, []), 20, springs, self.walkers_up_to(3, 5)), ("all", [1, 2]))
        self.assertEqual(shared((1, []), 20, springs, self.walkers_up_to(5, 3)), ("all", [2, 1]))
        self.assertEqual(shared((1, []), 20, springs, self.walkers_up_to(5, 5)), ("not", [[2], [2]]))
        self.assertEqual(shared((1, []), 20, springs, self.walkers_up_to(8, 0)), ("all", [3, 0]))
        self.assertEqual(shared((1, []), 20, springs, self.walkers_up_to(8, 1)), ("not", [[3], [1, 2]]))
        self.assertEqual(shared((1, []), 20, springs, self.walkers_up_to(9, 1)), ("not", [[], [1, 2]]))

    def test_three_walkers(self):
        springs = [(0, 3), (0, 3), (0, 5), (0, 1)]
        self.assertEqual(shared((1, []), 20, springs, self.walkers_up_to(3, 5, 3)), ("all", [1, 4, 2]))
        self.assertEqual(shared((1, []), 20, springs, self.walkers_up_to(5, 5, 1)), ("all", [3, 4, 8]))
        self.assertEqual(shared((1, []), 20, springs, self.walkers_up_to(1, 6, 1)), ("all", [1, 6, 8]))
        self.assertEqual(shared((1, []), 20, springs, self.walkers_up_to(3, 6, 3)), ("all", [1, 12, 2]))
        self.assertEqual(shared((1, []), 20, springs, self.walkers_up_to(5, 5, 3))[0], "not")

    def test_the_first_takes_more_than_it_would_alone(self):
        # Alone it would use the first spring, but that is the only one that the other can come to.
        land = (2, [(0, 1, 0)])
        springs = [(1, 5), (0, 2), (0, 4)]
        self.assertEqual(shared(land, 20, springs, [((0, 0), (1, 5)), ((1, 0), (1, 5))]), ("all", [6, 1]))
        self.assertEqual(shared(land, 20, springs, [((0, 0), (1, 5))]), ("all", [1]))

    def test_drawn_lands_against_all_shares(self):
        found = {"all": 0, "not": 0, "many": 0}
        for reach, places, ways in ((1, 5, 8), (5, 5, 8), (3, 1, 0), (3, 2, 3)):
            for task in share_tasks(repr((reach, places)), 250, places, ways, reach, range(1, 9)):
                told = self.assert_shared(*task)
                found[told[0]] += 1
                found["many"] += told[0] == "all" and sum(some > 0 for some in told[1]) > 1
        self.assertGreater(min(found.values()), 10, found)

    def test_walkers_up_to_each_level(self):
        springs = [(0, 1), (0, 2), (0, 2), (0, 4)]
        for levels in itertools.product(range(7), repeat=3):
            self.assert_shared((1, []), 9, springs, self.walkers_up_to(*levels))

    def test_shares_come_through_and_else_none_do(self):
        for land, store, springs, walkers in share_tasks(9, 80, 4, 6, 3, range(1, 7)):
            told = shared(land, store, springs, walkers)
            every = [needs_by_trying(land, store, springs, walker) for walker in walkers]
            if told[0] == "all":
                for one, need in zip(told[1], every):
                    self.assertIn(one, need)
            else:
                self.assertEqual(told[1], every)
                self.assertIsNone(shares_by_trying(len(springs), every))

    def test_great_lands(self):
        for reach in (10 ** 9, FAR):
            for task in share_tasks(reach + 1, 60, 9, 16, reach, (10 ** 9, FAR)):
                self.assert_shared(*task)


if __name__ == "__main__":
    unittest.main()
