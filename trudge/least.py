"""The least levels from which a walk comes through to a goal: the highest levels, read backward."""

from trudge.highest import highest, trips_to
from trudge.lands import turned_land
from trudge.trips import backward


def lacking(store, table):
    return [None if level is None else store - level for level in table]


def least(land, store, goal):
    return lacking(store, highest(turned_land(land), store, lacking(store, goal)))


def trips_on(land, store, goal):
    told = trips_to(turned_land(land), store, lacking(store, goal))
    return [None if found is None else (found[0], backward(found[1])) for found in told]
