"""Lands: tuples (many, ways) of the number of places and the ways between them."""

from trudge.errors import BadLand
from trudge.steps import is_whole

MANY = 0
WAYS = 1

START = 0
END = 1
CHANGE = 2

MOST_PLACES = 12
MOST_WAYS = 40


def is_place(many, thing):
    return is_whole(thing) and 0 <= thing < many


def is_change(thing):
    return is_whole(thing) and -10 ** 18 <= thing <= 10 ** 18


def is_way(many, thing):
    if not isinstance(thing, tuple) or len(thing) != 3:
        return False
    return is_place(many, thing[START]) and is_place(many, thing[END]) and is_change(thing[CHANGE])


def is_frame(thing):
    if not isinstance(thing, tuple) or len(thing) != 2:
        return False
    if not is_whole(thing[MANY]) or not 1 <= thing[MANY] <= MOST_PLACES:
        return False
    return isinstance(thing[WAYS], list) and len(thing[WAYS]) <= MOST_WAYS


def land_of(thing):
    if not is_frame(thing):
        raise BadLand(0)
    for number, way in enumerate(thing[WAYS]):
        if not is_way(thing[MANY], way):
            raise BadLand(number + 1)
    return (thing[MANY], list(thing[WAYS]))


def turned_land(land):
    return (land[MANY], [(way[END], way[START], way[CHANGE]) for way in land[WAYS]])


def changes_of(land, numbers):
    return [land[WAYS][number][CHANGE] for number in numbers]


def most_taken(land):
    # No shortest walk from one place to another has as many ways as there are places.
    return (land[MANY] - 1) * max([abs(way[CHANGE]) for way in land[WAYS]], default=0)
