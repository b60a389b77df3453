"""Points [28] and [29], and of point [4] what it says of a keeper."""

import copy
import itertools
import random
import unittest

from trudge import errors
from trudge.floors import is_floor
from trudge.highest import highest
from trudge.keeper import Keeper
from trudge.least import least, trips_on
from trudge.stores import least_store
from walking import NO_TABLES, drawn_table, least_by_states, level_behind, place_behind

FULL = 10 ** 20
FAR = 10 ** 18

# Things that are no whole numbers at all.
NO_NUMBERS = (
    None, True, False, "", "1", "0", b"1", (), (1,), [], [1], {}, {1: 1}, {1}, frozenset((1,)), range(1), object(),
    int, len, ValueError(1),
)
NO_LABELS = NO_NUMBERS + (0, -1, FAR + 1, -FAR, 10 ** 59, 10 ** 5000)
NO_PLACES = NO_NUMBERS + (-1, 3, 4, 10 ** 59, -10 ** 59)
NO_CHANGES = NO_NUMBERS + (FAR + 1, -FAR - 1, 10 ** 59, -10 ** 5000)
NO_STORES = NO_NUMBERS + (-1, FULL + 1, 10 ** 59, -10 ** 5000)


def is_less(one, other):
    """None is more than each level."""
    return one is not None and (other is None or one < other)


def moved(ahead, behind):
    places = range(len(ahead))
    return ([place for place in places if is_less(behind[place], ahead[place])],
            [place for place in places if is_less(ahead[place], behind[place])])


class Model:
    """What a keeper was told, kept without the package; each answer is that of a land told at once."""

    def __init__(self, many, store, goal):
        self.many, self.store, self.goal, self.ways = many, store, list(goal), {}

    def land(self):
        return (self.many, [self.ways[label] for label in sorted(self.ways)])

    def least(self):
        table_of = least_by_states if self.store <= 12 else least
        return table_of(self.land(), self.store, self.goal)

    def do(self, deed, *handed):
        if deed == "lay":
            self.ways[handed[0]] = handed[1:]
        elif deed == "lift":
            del self.ways[handed[0]]
        elif deed == "turn":
            self.ways[handed[0]] = self.ways[handed[0]][:2] + handed[1:]
        elif deed == "refill":
            self.store = handed[0]
        else:
            self.goal = list(handed[0])

    def refusal(self, deed, *handed):
        """The class and the field of the refusal that is due, or None."""
        label = handed[0]
        if deed == "lay":
            if not 1 <= label <= FAR:
                return (errors.BadLabel, None)
            if label in self.ways:
                return (errors.Taken, label)
            if not (0 <= handed[1] < self.many and 0 <= handed[2] < self.many and abs(handed[3]) <= FAR):
                return (errors.BadWay, None)
            return (errors.TooMany, 40) if len(self.ways) >= 40 else None
        if deed in ("lift", "turn"):
            if label not in self.ways:
                return (errors.NoWay, label)
            return (errors.BadWay, None) if deed == "turn" and abs(handed[1]) > FAR else None
        if deed == "refill":
            fits = 0 <= label <= FULL and all(level is None or level <= label for level in self.goal)
            return None if fits else (errors.BadStore, None)
        fits = len(label) == self.many and all(level is None or 0 <= level <= self.store for level in label)
        return None if fits else (errors.BadGoal, None)


def drawn_deed(draw, model, reach, stores, labels):
    kind = draw.choice(("lay", "lay", "lay", "lift", "turn", "turn", "refill", "aim"))
    label = draw.choice(labels)
    if model.ways and draw.random() < 0.7 and kind in ("lift", "turn"):
        label = draw.choice(sorted(model.ways))
    change = draw.choice((draw.randint(-reach, reach),) * 20 + (FAR + 1, -FAR - 1))
    if kind == "lay":
        return ("lay", label, draw.randint(-1, model.many) if draw.random() < 0.1 else draw.randrange(model.many),
                draw.randrange(model.many), change)
    if kind == "turn":
        return ("turn", label, change)
    if kind == "lift":
        return ("lift", label)
    if kind == "refill":
        return ("refill", draw.choice(stores))
    goal = drawn_table(draw, model.many, model.store)
    return ("aim", draw.choice((goal, goal, goal, goal, goal + [None], [model.store + 1] * model.many)))


def told_of(keeper):
    return (keeper.ways(), keeper.store(), keeper.goal(), keeper.land(), keeper.least())


class KeeperTest(unittest.TestCase):
    def assert_refused(self, keeper, refusal, ask, *handed):
        """The refusal is of just this class, has the very thing as its field, and changes nothing."""
        ahead = copy.deepcopy(told_of(keeper))
        with self.assertRaises(errors.TrudgeError) as caught:
            ask(*handed)
        self.assertIs(caught.exception.__class__, refusal[0], handed)
        if refusal[0] in (errors.Taken, errors.NoWay):
            self.assertIs(caught.exception.label, refusal[1])
        if refusal[0] is errors.TooMany:
            self.assertEqual(caught.exception.most, refusal[1])
        self.assertEqual(told_of(keeper), ahead, handed)

    def assert_as_told_at_once(self, keeper, model):
        land = model.land()
        self.assertEqual(keeper.ways(), [(label, *model.ways[label]) for label in sorted(model.ways)])
        self.assertEqual(keeper.store(), model.store)
        self.assertEqual(keeper.goal(), model.goal)
        self.assertEqual(keeper.land(), land)
        self.assertEqual(keeper.least(), least(land, model.store, model.goal))
        self.assertIs(is_floor(land, model.store, model.goal, keeper.least()), True)

    def assert_trips(self, keeper, model):
        land = model.land()
        told = [keeper.trip_from(place) for place in range(model.many)]
        self.assertEqual(told, trips_on(land, model.store, model.goal))
        for place, level in enumerate(keeper.least()):
            if level is None:
                self.assertIsNone(told[place])
            else:
                end, trip = told[place]
                self.assertEqual(place_behind(land, place, trip), end)
                self.assertGreaterEqual(level_behind(land, model.store, level, trip), model.goal[end])

    def run_deeds(self, seed, many, reach, stores, deeds, labels):
        draw = random.Random(seed)
        store = stores[0]
        goal = drawn_table(draw, many, store)
        keeper = Keeper(many, store, goal)
        model = Model(many, store, goal)
        counts = {"done": 0, "refused": 0, "moved": 0}
        for number in range(deeds):
            deed = drawn_deed(draw, model, reach, stores, labels)
            ask = getattr(keeper, deed[0])
            refusal = model.refusal(*deed)
            if refusal is not None:
                self.assert_refused(keeper, (refusal[0], deed[1] if refusal[0] is not errors.TooMany else 40),
                                    ask, *deed[1:])
                counts["refused"] += 1
                continue
            ahead = model.least()
            told = ask(*deed[1:])
            model.do(*deed)
            self.assertEqual(told, moved(ahead, model.least()), deed)
            self.assert_as_told_at_once(keeper, model)
            counts["done"] += 1
            counts["moved"] += told != ([], [])
            if number % 10 == 0:
                self.assert_trips(keeper, model)
                base = drawn_table(draw, many, model.store)
                self.assertEqual(keeper.highest(base), highest(model.land(), model.store, base))
                spots = [(draw.randrange(many), draw.randint(0, min(FAR, reach))) for spot in range(2)]
                self.assertEqual(keeper.least_store(*spots), least_store(model.land(), *spots))
        return counts

    def test_at_first(self):
        keeper = Keeper(3, 10, [None, 4, None])
        self.assertEqual(told_of(keeper), ([], 10, [None, 4, None], (3, []), [None, 4, None]))
        self.assertEqual([keeper.trip_from(place) for place in range(3)], [None, (1, []), None])
        self.assertEqual(keeper.highest([7, None, None]), [7, None, None])
        self.assertEqual(keeper.least_store((0, 3), (0, 2)), 3)
        self.assertIsNone(keeper.least_store((0, 3), (1, 2)))

    def test_told_deeds(self):
        keeper = Keeper(3, 10, [None, None, 4])
        self.assertEqual(keeper.lay(7, 1, 2, -3), ([1], []))
        self.assertEqual(keeper.lay(2, 0, 1, -3), ([0], []))
        self.assertEqual(keeper.least(), [10, 7, 4])
        self.assertEqual(keeper.lay(5, 0, 2, -9), ([], []))
        self.assertEqual(keeper.ways(), [(2, 0, 1, -3), (5, 0, 2, -9), (7, 1, 2, -3)])
        self.assertEqual(keeper.land(), (3, [(0, 1, -3), (0, 2, -9), (1, 2, -3)]))
        self.assertEqual(keeper.turn(7, -4), ([], [0, 1]))
        self.assertEqual(keeper.least(), [None, 8, 4])
        self.assertEqual(keeper.turn(7, -4), ([], []))
        self.assertEqual(keeper.refill(11), ([0], []))
        self.assertEqual(keeper.refill(11), ([], []))
        self.assertEqual(keeper.refill(4), ([], [0, 1]))
        self.assertEqual(keeper.aim([None, 2, None]), ([1], [2]))
        self.assertEqual(keeper.aim([None, 2, None]), ([], []))
        self.assertEqual(keeper.lift(7), ([], []))
        self.assertEqual(keeper.refill(5), ([0], []))
        self.assertEqual(keeper.lift(2), ([], [0]))
        self.assertEqual(told_of(keeper), ([(5, 0, 2, -9)], 5, [None, 2, None], (3, [(0, 2, -9)]), [None, 2, None]))

    def test_one_deed_may_do_both(self):
        keeper = Keeper(2, 10, [None, 3])
        self.assertEqual(keeper.aim([3, None]), ([0], [1]))

    def test_trips_and_numbers_of_ways_by_labels(self):
        keeper = Keeper(2, 10, [None, 3])
        keeper.lay(FAR, 0, 1, -1)
        self.assertEqual(keeper.trip_from(0), (1, [([0], 1)]))
        keeper.lay(1, 1, 0, 0)
        self.assertEqual(keeper.trip_from(0), (1, [([1], 1)]))

    def test_no_label(self):
        keeper = Keeper(3, 10, [0, None, None])
        for thing in NO_LABELS:
            self.assert_refused(keeper, (errors.BadLabel,), keeper.lay, thing, 0, 1, 2)
            # It goes ahead of a way that is none.
            self.assert_refused(keeper, (errors.BadLabel,), keeper.lay, thing, 0, 9, None)
        for label in (1, 2, FAR - 1, FAR):
            keeper.lay(label, 0, 1, 2)
        self.assertEqual([way[0] for way in keeper.ways()], [1, 2, FAR - 1, FAR])

    def test_taken(self):
        keeper = Keeper(3, 10, [0, None, None])
        keeper.lay(5, 0, 1, 2)
        self.assert_refused(keeper, (errors.Taken, 5), keeper.lay, 5, 0, 1, 2)
        self.assert_refused(keeper, (errors.Taken, 5), keeper.lay, 5, 1, 2, 3)
        for bad in ((3, 1, 2), (0, -1, 2), (0, 1, None), (None, [], {})):
            self.assert_refused(keeper, (errors.Taken, 5), keeper.lay, 5, *bad)
        keeper.lift(5)
        keeper.lay(5, 1, 2, 3)
        self.assertEqual(keeper.ways(), [(5, 1, 2, 3)])

    def test_no_way(self):
        keeper = Keeper(3, 10, [0, None, None])
        for thing in NO_PLACES:
            self.assert_refused(keeper, (errors.BadWay,), keeper.lay, 1, thing, 0, 2)
            self.assert_refused(keeper, (errors.BadWay,), keeper.lay, 1, 0, thing, 2)
            self.assert_refused(keeper, (errors.BadWay,), keeper.lay, 1, thing, thing, thing)
        for thing in NO_CHANGES:
            self.assert_refused(keeper, (errors.BadWay,), keeper.lay, 1, 0, 0, thing)
        for label, change in enumerate((FAR, -FAR, 0), start=1):
            keeper.lay(label, 0, 2, change)
        self.assertEqual(keeper.ways(), [(1, 0, 2, FAR), (2, 0, 2, -FAR), (3, 0, 2, 0)])

    def test_too_many(self):
        keeper = Keeper(3, 10, [0, None, None])
        for label in range(1, 41):
            keeper.lay(label, 0, 1, 2)
        self.assert_refused(keeper, (errors.TooMany, 40), keeper.lay, 41, 0, 1, 2)
        self.assert_refused(keeper, (errors.BadLabel,), keeper.lay, 0, 0, 1, 2)
        self.assert_refused(keeper, (errors.Taken, 7), keeper.lay, 7, 0, 1, 2)
        self.assert_refused(keeper, (errors.BadWay,), keeper.lay, 41, 0, 3, 2)
        keeper.lift(7)
        keeper.lay(41, 0, 1, 2)
        self.assert_refused(keeper, (errors.TooMany, 40), keeper.lay, 7, 0, 1, 2)

    def test_no_way_has_the_label(self):
        keeper = Keeper(3, 10, [0, None, None])
        keeper.lay(1, 0, 1, 2)
        for thing in NO_LABELS + (2, FAR):
            self.assert_refused(keeper, (errors.NoWay, thing), keeper.lift, thing)
            self.assert_refused(keeper, (errors.NoWay, thing), keeper.turn, thing, 3)
            # It goes ahead of a change that is none.
            self.assert_refused(keeper, (errors.NoWay, thing), keeper.turn, thing, FAR + 1)
            self.assert_refused(keeper, (errors.NoWay, thing), keeper.turn, thing, None)
        keeper.lift(1)
        self.assert_refused(keeper, (errors.NoWay, 1), keeper.lift, 1)
        self.assert_refused(keeper, (errors.NoWay, 1), keeper.turn, 1, 3)

    def test_no_change(self):
        keeper = Keeper(3, 10, [0, None, None])
        keeper.lay(1, 0, 1, 2)
        for thing in NO_CHANGES:
            self.assert_refused(keeper, (errors.BadWay,), keeper.turn, 1, thing)
        for change in (FAR, -FAR, 0):
            keeper.turn(1, change)
            self.assertEqual(keeper.ways(), [(1, 0, 1, change)])

    def test_no_store(self):
        keeper = Keeper(3, 10, [3, None, 5])
        for thing in NO_STORES + (0, 4):
            self.assert_refused(keeper, (errors.BadStore,), keeper.refill, thing)
        for store in (5, FULL):
            keeper.refill(store)
            self.assertEqual(keeper.store(), store)
        keeper = Keeper(3, 10, [None, None, None])
        for thing in NO_STORES:
            self.assert_refused(keeper, (errors.BadStore,), keeper.refill, thing)
        keeper.refill(0)
        self.assertEqual(keeper.store(), 0)

    def test_no_goal(self):
        keeper = Keeper(2, 3, [0, None])
        for thing in NO_TABLES:
            self.assert_refused(keeper, (errors.BadGoal,), keeper.aim, thing)
        keeper.aim([3, 0])
        self.assertEqual(keeper.goal(), [3, 0])
        keeper.aim([None, None])
        self.assertEqual(keeper.least(), [None, None])
        # What was one for the old store is none for the new one.
        keeper.refill(2)
        self.assert_refused(keeper, (errors.BadGoal,), keeper.aim, [3, 0])

    def test_small_deeds_one_behind_another(self):
        counts = {"done": 0, "refused": 0, "moved": 0}
        for seed, reach in itertools.product(range(12), (1, 3, 6)):
            found = self.run_deeds(repr((seed, reach)), 1 + seed % 5, reach, (9, 0, 4, 5, 7, 12), 80,
                                   (0, 1, 2, 3, 4, 5, 6, 7, 8, FAR, FAR + 1))
            counts = {name: counts[name] + found[name] for name in counts}
        self.assertGreater(min(counts.values()), 400)

    def test_great_deeds_one_behind_another(self):
        counts = {"done": 0, "refused": 0, "moved": 0}
        for seed, reach in itertools.product(range(4), (5, 10 ** 9, FAR)):
            found = self.run_deeds(repr((seed, reach)), 12, reach, (FAR, FULL, 10 ** 9, 0, 3 * FAR), 120,
                                   range(1, 60))
            counts = {name: counts[name] + found[name] for name in counts}
        self.assertGreater(min(counts.values()), 50)

    def test_many_ways(self):
        found = self.run_deeds(1, 12, 5, (50,), 150, range(1, 50))
        self.assertGreater(found["done"], 20)

    def test_what_rises_and_what_falls(self):
        draw = random.Random(8)
        for number in range(60):
            many = draw.randint(1, 6)
            keeper = Keeper(many, 30, drawn_table(draw, many, 10))
            for label in range(1, 9):
                start, end = draw.randrange(many), draw.randrange(many)
                self.assertEqual(keeper.lay(label, start, end, draw.randint(-9, 9))[1], [])
            for label in range(1, 9):
                change = keeper.ways()[label - 1][3]
                self.assertEqual(keeper.turn(label, change + draw.randint(0, 9))[1], [])
                self.assertEqual(keeper.turn(label, change - draw.randint(0, 9))[0], [])
            self.assertEqual(keeper.refill(40)[1], [])
            self.assertEqual(keeper.refill(20)[0], [])
            for label in range(1, 9):
                self.assertEqual(keeper.lift(label)[0], [])

    def test_two_keepers_by_turns(self):
        draw = random.Random(9)
        goals = ([None, 3, 0], [4, None, None])
        keepers = [Keeper(3, 10, goal) for goal in goals]
        models = [Model(3, 10, goal) for goal in goals]
        for number in range(200):
            turn = draw.randrange(2)
            deed = drawn_deed(draw, models[turn], 5, (4, 10, 12), (1, 2, 3, 4, 5))
            if models[turn].refusal(*deed) is None:
                ahead = models[turn].least()
                told = getattr(keepers[turn], deed[0])(*deed[1:])
                models[turn].do(*deed)
                self.assertEqual(told, moved(ahead, models[turn].least()))
            for keeper, model in zip(keepers, models):
                self.assert_as_told_at_once(keeper, model)

    def test_what_is_handed_in_is_copied(self):
        goal = [None, 3]
        keeper = Keeper(2, 10, goal)
        goal[0] = 0
        goal.append("spoilt")
        self.assertEqual((keeper.goal(), keeper.least()), ([None, 3], [None, 3]))
        keeper.lay(1, 0, 1, -2)
        goal = [None, 4]
        self.assertEqual(keeper.aim(goal), ([], [0, 1]))
        goal[1] = 0
        self.assertEqual(keeper.goal(), [None, 4])
        self.assertEqual(keeper.lay(2, 1, 0, 0), ([], []))
        base = [7, None]
        self.assertEqual(keeper.highest(base), [7, 5])
        self.assertEqual(base, [7, None])

    def test_what_is_told_is_the_askers_own(self):
        keeper = Keeper(3, 10, [None, None, 4])
        keeper.lay(2, 0, 1, -3)
        asked = (
            lambda: keeper.ways(), lambda: keeper.goal(), lambda: keeper.land()[1], lambda: keeper.least(),
            lambda: keeper.trip_from(2)[1], lambda: keeper.highest([5, None, None]),
            lambda: keeper.turn(2, -3)[0], lambda: keeper.turn(2, -3)[1], lambda: keeper.aim([None, None, 4])[0],
            lambda: keeper.refill(10)[1],
        )
        ahead = told_of(keeper)
        for ask in asked:
            kept = copy.deepcopy(ask())
            told = ask()
            told.append("spoilt")
            told[0] = "spoilt"
            self.assertEqual(ask(), kept)
            self.assertIsNot(ask(), ask())
        self.assertEqual(told_of(keeper), ahead)
        deed = keeper.turn(2, -3)
        self.assertIsNot(deed[0], deed[1])

    def test_told_kinds(self):
        keeper = Keeper(3, 10, [None, None, 4])
        for told in (keeper.lay(2, 0, 1, -3), keeper.turn(2, -2), keeper.refill(9), keeper.aim([0, 0, 0]),
                     keeper.lift(2)):
            self.assertEqual((told.__class__, [part.__class__ for part in told]), (tuple, [list, list]))
        keeper.lay(2, 0, 1, -3)
        self.assertEqual([way.__class__ for way in keeper.ways()], [tuple])
        self.assertEqual((keeper.land().__class__, keeper.land()[1][0].__class__), (tuple, tuple))


if __name__ == "__main__":
    unittest.main()
