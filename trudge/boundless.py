"""The highest levels where strength may rise without bound.

A store that is great enough bounds nothing that has a bound: a level that rises beyond each bound
is seen there by coming near the full store.
"""

from trudge.highest import highest, trips_to
from trudge.lands import CHANGE, END, MANY, START, WAYS, most_taken
from trudge.steps import is_whole

ANY = "any"


def greatest_of(base):
    return max([level for level in base if level is not None], default=0)


def boundless(land, base):
    # Where there is a highest level it is at most the bound. Elsewhere the store is met somewhere, and
    # from there a walk that takes no more than most_taken leads to the place.
    bound = greatest_of(base) + most_taken(land)
    told = highest(land, bound + most_taken(land) + 1, base)
    return [ANY if level is not None and level > bound else level for level in told]


def reaching(land, base, place, wanted):
    store = max(greatest_of(base), wanted) + most_taken(land)
    level = highest(land, store, base)[place]
    if level is None or level < wanted:
        return None
    found = trips_to(land, store, base)[place]
    return (store, found[0], found[1])


def is_open_level(thing):
    if isinstance(thing, str):
        return thing == ANY
    return thing is None or is_whole(thing) and thing >= 0


def is_open_table(many, thing):
    return isinstance(thing, list) and len(thing) == many and all([is_open_level(level) for level in thing])


def is_no_less(one, other):
    if one == ANY or other is None:
        return True
    return one is not None and other != ANY and one >= other


def behind_open_way(table, way):
    level = table[way[START]]
    if level is None or level == ANY:
        return level
    behind = level + way[CHANGE]
    return behind if behind >= 0 else None


def is_open_lid(land, base, table):
    if not is_open_table(land[MANY], table):
        return False
    if not all([is_no_less(lid, level) for lid, level in zip(table, base)]):
        return False
    return all([is_no_less(table[way[END]], behind_open_way(table, way)) for way in land[WAYS]])
