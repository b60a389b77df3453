"""Tables: lists with, for each place, a level or None. Here None is less than each level."""

from trudge.lands import CHANGE, START
from trudge.steps import is_level, stepped


def is_table(many, store, thing):
    if not isinstance(thing, list) or len(thing) != many:
        return False
    return all([level is None or is_level(store, level) for level in thing])


def are_tables(many, store, thing):
    return isinstance(thing, list) and all([is_table(many, store, table) for table in thing])


def is_more(one, other):
    return one is not None and (other is None or one > other)


def behind_way(store, table, way):
    level = table[way[START]]
    if level is None:
        return None
    return stepped(store, level, way[CHANGE])
