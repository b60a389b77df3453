"""Lids: tables that no way leads out of, so that no walk comes anywhere with more."""

from trudge.lands import END, MANY, WAYS
from trudge.tables import behind_way, is_more, is_table


def covers(table, base):
    return not any([is_more(level, lid) for level, lid in zip(base, table)])


def leads_within(land, store, table, lid):
    return not any([is_more(behind_way(store, table, way), lid[way[END]]) for way in land[WAYS]])


def is_closed(land, store, table):
    return leads_within(land, store, table, table)


def is_lid(land, store, base, table):
    return is_table(land[MANY], store, table) and covers(table, base) and is_closed(land, store, table)
