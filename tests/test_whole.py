"""Points [1], [3] and [4] over the whole program, and the interface: what its parts tell of one another."""

import importlib
import inspect
import random
import unittest

from trudge import errors
from trudge.boundless import boundless, reaching
from trudge.desk import Desk
from trudge.effects import mirrored
from trudge.highest import highest, trips_to
from trudge.keeper import Keeper
from trudge.lands import land_of, turned_land
from trudge.least import least, trips_on
from trudge.plans import cheapest, paid
from trudge.prices import costs_to
from trudge.shares import needs_of, shared
from trudge.soon import soonest
from trudge.springs import highest_by, trip_by
from trudge.stores import least_store
from trudge.trips import arrival, backward, effect_by, end_of, length_of
from walking import drawn_land, drawn_springs, drawn_tasks, great_tasks

FAR = 10 ** 18

INTERFACE = {
    "steps": {"stepped": "store level change", "levels_along": "store level changes"},
    "effects": {
        "effect_of": "store changes", "is_effect": "store thing", "changes_by": "store effect",
        "passed": "effect level", "joined": "one other", "repeated": "store effect times", "mirrored": "store effect"},
    "lands": {"land_of": "thing", "turned_land": "land"},
    "trips": {
        "end_of": "land place trip", "length_of": "land place trip", "effect_by": "land store place trip",
        "arrival": "land store place level trip", "backward": "trip"},
    "highest": {"highest": "land store base", "trips_to": "land store base"},
    "lids": {"is_lid": "land store base table"},
    "least": {"least": "land store goal", "trips_on": "land store goal"},
    "floors": {"is_floor": "land store goal table"},
    "stores": {"least_store": "land begin goal"},
    "soon": {"soonest": "land store begin goal most", "is_showing": "land store begin goal rows"},
    "boundless": {
        "boundless": "land base", "reaching": "land base place wanted", "is_open_lid": "land base table"},
    "prices": {"costs_to": "land store prices goal", "is_price_floor": "land store prices goal table"},
    "plans": {"paid": "land store prices begin plan", "cheapest": "land store prices begin goal"},
    "springs": {
        "highest_by": "land store springs base", "trip_by": "land store springs base some place",
        "is_spring_lid": "land store springs base tables"},
    "shares": {"needs_of": "land store springs walker", "shared": "land store springs walkers"},
    "keeper": {"Keeper": "many store goal"},
    "desk": {"Desk": ""},
}
METHODS = (
    (Keeper, {
        "lay": "label start end change", "lift": "label", "turn": "label change", "refill": "store", "aim": "goal",
        "ways": "", "store": "", "goal": "", "land": "", "least": "", "trip_from": "place", "highest": "base",
        "least_store": "begin goal"}),
    (Desk, {"say": "row"}),
)
LAND = (3, [(0, 1, -5), (1, 0, 7), (0, 2, -20)])


def whole_tasks(seed, many, places, ways, reach, stores):
    """Tuples (land, store, begin, goal), the last two spots."""
    draw = random.Random(seed)
    for number in range(many):
        land = drawn_land(draw, places, ways, reach)
        store = draw.choice(stores)
        spots = [(draw.randrange(land[0]), draw.choice((0, draw.randint(0, min(FAR, store))))) for spot in range(2)]
        yield (land, store, spots[0], spots[1])


def every_whole_task(seed, many):
    yield from whole_tasks(repr((seed, 1)), many, 5, 9, 4, range(9))
    for reach in (5, 10 ** 9, FAR):
        yield from whole_tasks(repr((seed, reach)), many, 12, 20, reach, (9, 10 ** 9, FAR, 10 ** 20))


def table_at(many, spot):
    return [spot[1] if place == spot[0] else None for place in range(many)]


def comes_through(land, store, begin, goal):
    level = highest(land, store, table_at(land[0], begin))[goal[0]]
    return level is not None and level >= goal[1]


class InterfaceTest(unittest.TestCase):
    def test_names_and_arguments(self):
        for module, names in INTERFACE.items():
            for name, arguments in names.items():
                found = getattr(importlib.import_module("trudge." + module), name)
                self.assertEqual(list(inspect.signature(found).parameters), arguments.split(), name)

    def test_methods(self):
        for kind, names in METHODS:
            for name, arguments in names.items():
                found = inspect.signature(getattr(kind, name)).parameters
                self.assertEqual(list(found)[1:], arguments.split(), name)


class RefusalsTest(unittest.TestCase):
    def test_each_is_straight_under_the_base(self):
        keeper = Keeper(2, 9, [None, 3])
        keeper.lay(1, 0, 1, 2)
        for label in range(2, 41):
            keeper.lay(label, 0, 1, 2)
        desk = Desk()
        for refusal, ask, handed in (
                (errors.BadLand, land_of, (None,)),
                (errors.BadTrip, end_of, (LAND, 0, [([], 1)])),
                (errors.BadTrip, length_of, (LAND, 0, [([], 1)])),
                (errors.BadTrip, effect_by, (LAND, 9, 0, [([], 1)])),
                (errors.BadTrip, arrival, (LAND, 9, 0, 1, [([], 1)])),
                (errors.BadPlan, paid, (LAND, 9, [1, 1, 1], (0, 0), [("buy", 0)])),
                (errors.BadLabel, keeper.lay, (0, 0, 1, 2)),
                (errors.Taken, keeper.lay, (1, 0, 1, 2)),
                (errors.BadWay, keeper.lay, (41, 0, 2, 2)),
                (errors.TooMany, keeper.lay, (41, 0, 1, 2)),
                (errors.NoWay, keeper.lift, (41,)),
                (errors.NoWay, keeper.turn, (41, 2)),
                (errors.BadWay, keeper.turn, (1, None)),
                (errors.BadStore, keeper.refill, (2,)),
                (errors.BadGoal, keeper.aim, ([10, None],)),
                (errors.NoRow, desk.say, ("lands",)),
                (errors.NoText, desk.say, ("land x 3",)),
                (errors.NoLand, desk.say, ("least",))):
            with self.assertRaises(ValueError) as caught:
                ask(*handed)
            self.assertIs(caught.exception.__class__, refusal)
            self.assertEqual(refusal.__bases__, (errors.TrudgeError,))
            str(caught.exception)


class WholeTest(unittest.TestCase):
    def test_the_highest_levels_and_the_least_beginnings_tell_the_same_walks(self):
        found = [0, 0]
        for land, store, begin, goal in every_whole_task(1, 250):
            through = comes_through(land, store, begin, goal)
            lowest = least(land, store, table_at(land[0], goal))[begin[0]]
            self.assertIs(lowest is not None and lowest <= begin[1], through, (land, store, begin, goal))
            found[through] += 1
        self.assertGreater(min(found), 100)

    def test_the_least_store_and_levels_without_a_bound(self):
        for land, store, begin, goal in every_whole_task(2, 250):
            told = least_store(land, begin, goal)
            level = boundless(land, table_at(land[0], begin))[goal[0]]
            self.assertIs(told is not None, level == "any" or level is not None and level >= goal[1])
            self.assertIs(comes_through(land, store, begin, goal), told is not None and told <= store)
            self.assertIs(reaching(land, table_at(land[0], begin), goal[0], goal[1]) is not None, told is not None)

    def test_the_fewest_ways(self):
        # So few places and levels that who comes through at all does so by far fewer than 200 ways.
        for land, store, begin, goal in whole_tasks(3, 800, 6, 12, 4, range(15)):
            told = soonest(land, store, begin, goal, 200)
            self.assertEqual(told[0] == "through", comes_through(land, store, begin, goal))
            if told[0] == "through" and len(told[1]) > 0:
                self.assertEqual(arrival(land, store, begin[0], begin[1], [(told[1], 1)]) >= goal[1], True)

    def test_who_buys_nothing(self):
        for land, store, begin, goal in whole_tasks(4, 300, 6, 15, 5, (0, 3, 12, 40)):
            lowest = least(land, store, table_at(land[0], goal))
            nothing = [[0 if low is not None and level >= low else None for level in range(store + 1)]
                       for low in lowest]
            self.assertEqual(costs_to(land, store, [None] * land[0], goal), nothing)
            sold = costs_to(land, store, [1] * land[0], goal)
            for row, free in zip(sold, nothing):
                self.assertEqual([cost == 0 for cost in row], [cost == 0 for cost in free])
            told = cheapest(land, store, [None] * land[0], begin, goal)
            self.assertEqual(told is not None, comes_through(land, store, begin, goal))

    def test_a_spring_gives_no_more_than_a_way_would(self):
        # Who may use a spring as a way of its own, as often as wanted, has no less.
        for land, store, begin, goal in every_whole_task(5, 40):
            draw = random.Random(repr(land))
            springs = drawn_springs(draw, land, 3, max(1, store // 3))
            base = table_at(land[0], begin)
            more = (land[0], land[1] + [(place, place, gift) for place, gift in springs])
            told = highest_by(land, store, springs, base)
            for table in told:
                for level, bound in zip(table, highest(more, store, base)):
                    self.assertTrue(level is None or bound is not None and level <= bound)
            self.assertEqual(told[0], highest(land, store, base))

    def test_walkers_without_springs(self):
        for land, store, begin, goal in every_whole_task(6, 60):
            needs = [0] if comes_through(land, store, begin, goal) else []
            self.assertEqual(needs_of(land, store, [], (begin, goal)), needs)
            expected = ("all", [0, 0]) if needs else ("not", [[], []])
            self.assertEqual(shared(land, store, [], [(begin, goal)] * 2), expected)

    def test_needs_and_the_levels_with_springs(self):
        for land, store, begin, goal in every_whole_task(7, 40):
            draw = random.Random(repr(land))
            springs = drawn_springs(draw, land, 3, max(1, store // 3))
            base = table_at(land[0], begin)
            for some in needs_of(land, store, springs, (begin, goal)):
                start, trip = trip_by(land, store, springs, base, some, goal[0])
                self.assertEqual(start, begin[0])
                self.assertEqual(sorted(part[1] for part in trip if part[0] == "use"),
                                 [number for number in range(len(springs)) if some >> number & 1])
                self.assertGreaterEqual(highest_by(land, store, springs, base)[some][goal[0]], goal[1])

    def test_trips_read_backward(self):
        for land, store, table in list(drawn_tasks(8, 200, 5, 9, 4, range(9))) + list(great_tasks(8, 15)):
            turned = turned_land(land)
            for place, found in enumerate(trips_to(land, store, table)):
                if found is not None:
                    there = effect_by(land, store, found[0], found[1])
                    self.assertEqual(effect_by(turned, store, place, backward(found[1])), mirrored(store, there))
            for place, found in enumerate(trips_on(land, store, table)):
                if found is not None:
                    self.assertEqual(end_of(turned, found[0], backward(found[1])), place)

    def test_a_keeper_and_a_desk_tell_what_the_functions_tell(self):
        for land, store, begin, goal in every_whole_task(9, 30):
            desk = Desk()
            desk.say(f"land {land[0]} {store}")
            keeper = Keeper(land[0], store, table_at(land[0], goal))
            for number, way in enumerate(land[1]):
                keeper.lay(number + 1, *way)
                desk.say(f"lay {number + 1} {way[0]} {way[1]} {way[2]}")
            self.assertEqual(keeper.land(), land)
            self.assertEqual(keeper.least(), least(land, store, table_at(land[0], goal)))
            self.assertEqual(keeper.least_store(begin, goal), least_store(land, begin, goal))
            self.assertEqual(keeper.trip_from(begin[0]), trips_on(land, store, table_at(land[0], goal))[begin[0]])
            spots = f"{begin[0]} {begin[1]} {goal[0]} {goal[1]}"
            told = least_store(land, begin, goal)
            self.assertEqual(desk.say("store " + spots), "none" if told is None else str(told))
            through = soonest(land, store, begin, goal, 50)
            self.assertEqual(desk.say(f"soon {spots} 50"), str(len(through[1])) if through[0] == "through" else "not")


if __name__ == "__main__":
    unittest.main()
