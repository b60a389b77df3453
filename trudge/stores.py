"""The least store with which a walk comes from one spot, a tuple (place, level), to another one."""

from trudge.highest import highest
from trudge.lands import CHANGE, MANY, WAYS

PLACE = 0
LEVEL = 1


def comes_through(land, store, begin, goal):
    base = [None] * land[MANY]
    base[begin[PLACE]] = begin[LEVEL]
    level = highest(land, store, base)[goal[PLACE]]
    return level is not None and level >= goal[LEVEL]


def store_enough(land, begin, goal):
    # Who once has this full store comes by the shortest walk to the goal, whatever its ways take.
    greatest = max([abs(way[CHANGE]) for way in land[WAYS]], default=0)
    return max(begin[LEVEL], goal[LEVEL] + (land[MANY] - 1) * greatest)


def least_store(land, begin, goal):
    high = store_enough(land, begin, goal)
    if not comes_through(land, high, begin, goal):
        return None
    # Halving: with each greater store one comes through, too.
    low = max(begin[LEVEL], goal[LEVEL])
    while low < high:
        middle = (low + high) // 2
        if comes_through(land, middle, begin, goal):
            high = middle
        else:
            low = middle + 1
    return low
