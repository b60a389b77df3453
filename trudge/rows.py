"""Rows: tables built one behind another, each with what one way more can do.

A row is a tuple: its table, and for each place the number of the way by which its level there came,
or None where it was had without a way.
"""

from trudge.lands import END, MANY, START, WAYS
from trudge.tables import behind_way, is_more

TABLE = 0
RISEN = 1

# A walk: the place where it begins and the numbers of its ways.
FROM = 0
BY = 1


def first_row(table):
    return (list(table), [None] * len(table))


def row_behind(land, store, table, stayed):
    # Stayed: what is had without one way more; a way counts only where it leads to more.
    higher = list(stayed)
    risen = [None] * land[MANY]
    for number, way in enumerate(land[WAYS]):
        level = behind_way(store, table, way)
        if is_more(level, higher[way[END]]):
            higher[way[END]] = level
            risen[way[END]] = number
    return (higher, risen)


def walk_to(land, rows, place):
    here = place
    numbers = []
    for row in reversed(rows):
        number = row[RISEN][here]
        if number is not None:
            numbers.append(number)
            here = land[WAYS][number][START]
    return (here, list(reversed(numbers)))
