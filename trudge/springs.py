"""Springs: tuples (place, gift), each of which gives once to who comes to its place.

A set of springs is a number, the sum of 2 ** k over its springs k, and tables for all sets stand in
the row of these numbers: so each stands behind those of the sets that lack one of its springs.
"""

from trudge.highest import highest, trips_to
from trudge.lands import MANY
from trudge.lids import covers, is_closed
from trudge.steps import stepped
from trudge.tables import are_tables, is_more

PLACE = 0
GIFT = 1

USE = "use"


def alone(number):
    # The set of this spring alone.
    return 1 << number


def numbers_in(springs, some):
    return [number for number in range(len(springs)) if some & alone(number) != 0]


def level_by_spring(store, springs, tables, some, number):
    # What is had where this spring is the last one of the set that is used.
    level = tables[some - alone(number)][springs[number][PLACE]]
    return None if level is None else stepped(store, level, springs[number][GIFT])


def base_by(store, springs, tables, base, some):
    # Where a walk stands that has just used the whole set: at the beginning, or at the last spring.
    if some == 0:
        return base
    there = [None] * len(base)
    for number in numbers_in(springs, some):
        level = level_by_spring(store, springs, tables, some, number)
        if is_more(level, there[springs[number][PLACE]]):
            there[springs[number][PLACE]] = level
    return there


def highest_by(land, store, springs, base):
    tables = []
    for some in range(alone(len(springs))):
        tables.append(highest(land, store, base_by(store, springs, tables, base, some)))
    return tables


def last_spring(store, springs, tables, some, place, level):
    return [number for number in numbers_in(springs, some)
            if springs[number][PLACE] == place and level_by_spring(store, springs, tables, some, number) == level][0]


def trip_by(land, store, springs, base, some, place):
    tables = highest_by(land, store, springs, base)
    if tables[some][place] is None:
        return None
    # From the end to the beginning: the trip behind the last spring, then that behind the one ahead of it.
    left = some
    found = trips_to(land, store, base_by(store, springs, tables, base, left))[place]
    trip = found[1]
    while left > 0:
        level = base_by(store, springs, tables, base, left)[found[0]]
        number = last_spring(store, springs, tables, left, found[0], level)
        left = left - alone(number)
        found = trips_to(land, store, base_by(store, springs, tables, base, left))[found[0]]
        trip = found[1] + [(USE, number)] + trip
    return (found[0], trip)


def is_spring_lid(land, store, springs, base, tables):
    if not are_tables(land[MANY], store, tables) or len(tables) != alone(len(springs)):
        return False
    if not all([is_closed(land, store, table) for table in tables]):
        return False
    return all([covers(table, base_by(store, springs, tables, base, some)) for some, table in enumerate(tables)])
