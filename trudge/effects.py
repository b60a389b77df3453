"""Effects: what a whole row of changes does to every level at once.

An effect is a tuple (least, gain, top). In its place None stands for a row
that not even the full store gets through; what is made of such a row is None too.
"""

from trudge.steps import is_level, is_whole

LEAST = 0
GAIN = 1
TOP = 2


def effect_of_none(store):
    return (0, 0, store)


def effect_of_one(store, change):
    if store + change < 0:
        return None
    return (max(0, -change), change, min(store, store + change))


def effect_of(store, changes):
    whole = effect_of_none(store)
    for change in changes:
        whole = joined(whole, effect_of_one(store, change))
    return whole


def is_effect(store, thing):
    if not isinstance(thing, tuple) or len(thing) != 3:
        return False
    if not is_level(store, thing[LEAST]) or not is_level(store, thing[TOP]):
        return False
    if not is_whole(thing[GAIN]):
        return False
    return thing[LEAST] + thing[GAIN] >= 0 and thing[TOP] <= store + thing[GAIN]


def changes_by(store, effect):
    # Down to the least, up so far that just what is beyond the top is lost, and down to the top.
    down = -effect[LEAST]
    last = effect[TOP] - store
    return [down, effect[GAIN] - down - last, last]


def passed(effect, level):
    if effect is None or level < effect[LEAST]:
        return None
    return min(level + effect[GAIN], effect[TOP])


def joined(one, other):
    # The top of the one is the most that any level brings to the other.
    if one is None or other is None or one[TOP] < other[LEAST]:
        return None
    least = max(one[LEAST], other[LEAST] - one[GAIN])
    return (least, one[GAIN] + other[GAIN], passed(other, one[TOP]))


def repeated(store, effect, times):
    # Doubling: times may be far too many to join the effect once for each.
    whole = effect_of_none(store)
    power = effect
    left = times
    while left > 0:
        if left % 2 == 1:
            whole = joined(whole, power)
        power = joined(power, power)
        left = left // 2
    return whole


def mirrored(store, effect):
    if effect is None:
        return None
    return (store - effect[TOP], effect[GAIN], store - effect[LEAST])
