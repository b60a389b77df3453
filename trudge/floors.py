"""Floors: tables from below which no way leads in, so that no walk comes through from less.

Here None is more than each level.
"""

from trudge.lands import CHANGE, END, MANY, START, WAYS
from trudge.tables import is_table


def is_within(level, bound):
    return bound is None or level is not None and level <= bound


def ahead_of_way(store, table, way):
    # The least level of which the way makes what the table has at its end, or more.
    level = table[way[END]]
    if level is None or level - way[CHANGE] > store:
        return None
    return max(0, level - way[CHANGE])


def is_floor(land, store, goal, table):
    if not is_table(land[MANY], store, table):
        return False
    if not all([is_within(level, bound) for level, bound in zip(table, goal)]):
        return False
    return all([is_within(table[way[START]], ahead_of_way(store, table, way)) for way in land[WAYS]])
