"""Trips: lists of parts (ways, times), where they lead and what they make of levels."""

from trudge.effects import effect_of, effect_of_none, joined, passed, repeated
from trudge.errors import BadTrip
from trudge.lands import END, START, WAYS, changes_of, is_place

NUMBERS = 0
TIMES = 1


def behind_ways(land, place, numbers):
    # None where a number is none of a way, or a way doesn't begin where it should.
    here = place
    for number in numbers:
        if not is_place(len(land[WAYS]), number) or land[WAYS][number][START] != here:
            return None
        here = land[WAYS][number][END]
    return here


def behind_part(land, place, part):
    # None where it is no part that begins at the place: whichever it is, the refusal is the same.
    if len(part[NUMBERS]) == 0 or not 1 <= part[TIMES] <= 10 ** 24:
        return None
    behind = behind_ways(land, place, part[NUMBERS])
    if part[TIMES] > 1 and behind != place:
        return None
    return behind


def end_of(land, place, trip):
    here = place
    for at, part in enumerate(trip):
        here = behind_part(land, here, part)
        if here is None:
            raise BadTrip(at)
    return here


def length_of(land, place, trip):
    end_of(land, place, trip)
    return sum([len(part[NUMBERS]) * part[TIMES] for part in trip])


def effect_by(land, store, place, trip):
    # Asked for its refusal, which goes ahead of a None that the first parts alone would give.
    end_of(land, place, trip)
    whole = effect_of_none(store)
    for part in trip:
        once = effect_of(store, changes_of(land, part[NUMBERS]))
        whole = joined(whole, repeated(store, once, part[TIMES]))
    return whole


def arrival(land, store, place, level, trip):
    return passed(effect_by(land, store, place, trip), level)


def backward(trip):
    return [(list(reversed(part[NUMBERS])), part[TIMES]) for part in reversed(trip)]
