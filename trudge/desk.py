"""A desk, which is told rows of words and answers with rows of words, of one keeper at a time."""

from trudge.boundless import boundless
from trudge.errors import BadGoal, NoLand, NoRow, NoText
from trudge.keeper import Keeper
from trudge.lands import MANY, MOST_PLACES, is_place
from trudge.soon import soonest
from trudge.steps import is_level, is_store
from trudge.tables import is_table
from trudge.words import level_by, moved_row, number_by, row_of, table_row, way_word, written

# How many numbers stand behind the first word; behind those of TABLED stands a table, one word at least.
NUMBERED = {"land": 2, "lay": 4, "lift": 1, "turn": 2, "refill": 1, "least": 0, "ways": 0, "store": 4, "soon": 5}
TABLED = ("aim", "highest", "any")

MOST_SOON = 200


def words_of(row):
    if not isinstance(row, str):
        raise NoRow("a row is a text")
    words = row.split(" ")
    behind = len(words) - 1
    if NUMBERED.get(words[0]) != behind and (words[0] not in TABLED or behind == 0):
        raise NoRow("no such row is known")
    return words


def values_of(words):
    if words[0] in TABLED:
        return [level_by(word) for word in words[1:]]
    return [number_by(word) for word in words[1:]]


def keeper_by(many, store):
    if not 1 <= many <= MOST_PLACES or not is_store(store):
        raise NoText("no land has so many places, or no store holds so much")
    return Keeper(many, store, [None] * many)


def base_of(keeper, values):
    if not is_table(keeper.land()[MANY], keeper.store(), values):
        raise BadGoal("no table for the land and the store")
    return values


def spot_of(keeper, place, level, most):
    if not is_place(keeper.land()[MANY], place) or not is_level(most, level):
        raise BadGoal("no place of the land, or no level")
    return (place, level)


def lay(keeper, values):
    return moved_row(keeper.lay(values[0], values[1], values[2], values[3]))


def lift(keeper, values):
    return moved_row(keeper.lift(values[0]))


def turn(keeper, values):
    return moved_row(keeper.turn(values[0], values[1]))


def refill(keeper, values):
    return moved_row(keeper.refill(values[0]))


def aim(keeper, values):
    return moved_row(keeper.aim(values))


def tell_least(keeper, values):
    return table_row(keeper.least())


def tell_highest(keeper, values):
    return table_row(keeper.highest(base_of(keeper, values)))


def tell_ways(keeper, values):
    return row_of(["ways"] + [way_word(way) for way in keeper.ways()])


def tell_store(keeper, values):
    begin = spot_of(keeper, values[0], values[1], 10 ** 18)
    goal = spot_of(keeper, values[2], values[3], 10 ** 18)
    told = keeper.least_store(begin, goal)
    return "none" if told is None else str(told)


def tell_soon(keeper, values):
    most = min(keeper.store(), 10 ** 18)
    begin = spot_of(keeper, values[0], values[1], most)
    goal = spot_of(keeper, values[2], values[3], most)
    if not 0 <= values[4] <= MOST_SOON:
        raise BadGoal("no number of ways that is asked for")
    told = soonest(keeper.land(), keeper.store(), begin, goal, values[4])
    return str(len(told[1])) if told[0] == "through" else "not"


def tell_any(keeper, values):
    base = base_of(keeper, values)
    if not is_table(len(base), 10 ** 18, base):
        raise BadGoal("a beginning without a bound on the store has no level above 10 ** 18")
    return table_row(boundless(keeper.land(), base))


ANSWERS = {
    "lay": lay, "lift": lift, "turn": turn, "refill": refill, "aim": aim, "least": tell_least,
    "highest": tell_highest, "ways": tell_ways, "store": tell_store, "soon": tell_soon, "any": tell_any,
}


class Desk:
    def __init__(self):
        self.keeper = None

    def say(self, row):
        words = words_of(row)
        values = values_of(words)
        if words[0] == "land":
            self.keeper = keeper_by(values[0], values[1])
            return "ok"
        if self.keeper is None:
            raise NoLand("no land was told yet")
        return ANSWERS[words[0]](self.keeper, values)
