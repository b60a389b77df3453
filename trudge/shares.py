"""Shares: which springs a walker, a tuple (begin, goal) of spots, needs, and how several share them."""

from trudge.lands import MANY
from trudge.spots import base_at, has_enough
from trudge.springs import highest_by

BEGIN = 0
GOAL = 1


def is_part(one, other):
    return one & other == one


def needs_of(land, store, springs, walker):
    needs = []
    # A part of a set has a lesser number, so it is met ahead of the set.
    for some, table in enumerate(highest_by(land, store, springs, base_at(land[MANY], walker[BEGIN]))):
        if has_enough(table, walker[GOAL]) and not any([is_part(need, some) for need in needs]):
            needs.append(some)
    return needs


def first_shares(needs, used):
    # None where the springs that are not used don't do for all.
    if len(needs) == 0:
        return []
    for some in needs[0]:
        others = first_shares(needs[1:], used | some) if some & used == 0 else None
        if others is not None:
            return [some] + others
    return None


def shared(land, store, springs, walkers):
    needs = [needs_of(land, store, springs, walker) for walker in walkers]
    sets = first_shares(needs, 0)
    if sets is None:
        return ("not", needs)
    return ("all", sets)
