"""The least store with which a walk comes from one spot to another one."""

from trudge.highest import highest
from trudge.lands import MANY, most_taken
from trudge.spots import LEVEL, base_at, has_enough


def comes_through(land, store, begin, goal):
    return has_enough(highest(land, store, base_at(land[MANY], begin)), goal)


def store_enough(land, begin, goal):
    # Who once has this full store comes by the shortest walk to the goal, whatever its ways take.
    return max(begin[LEVEL], goal[LEVEL] + most_taken(land))


def least_store(land, begin, goal):
    high = store_enough(land, begin, goal)
    if not comes_through(land, high, begin, goal):
        return None
    # Halving: with each greater store one comes through, too.
    low = max(begin[LEVEL], goal[LEVEL])
    while low < high:
        middle = (low + high) // 2
        if comes_through(land, middle, begin, goal):
            high = middle
        else:
            low = middle + 1
    return low
