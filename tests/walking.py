"""Rows walked change by change, without the package: what the tests hold its answers against."""

import itertools
import random


def walked(store, level, changes):
    for change in changes:
        level += change
        if level < 0:
            return None
        if level > store:
            level = store
    return level


def effect_by_walking(store, changes):
    """The effect found by walking from each level, for small stores."""
    through = [level for level in range(store + 1) if walked(store, level, changes) is not None]
    if not through:
        return None
    return (through[0], sum(changes), walked(store, store, changes))


def effect_by_sums(store, changes):
    """The effect found from the sums of the row's beginnings, for any store."""
    sums = [0] + list(itertools.accumulate(changes))
    highest = 0
    top = store
    for height in sums:
        highest = max(highest, height)
        top = store + height - highest
        if top < 0:
            return None
    return (max(-height for height in sums), sums[-1], top)


def repeated_by_rule(store, effect, times):
    """A repeated effect without joining: behind the first time each one shifts by the gain."""
    if times == 0:
        return (0, 0, store)
    least, gain, top = effect
    loss = max(0, -gain)
    if times > 1 and top - (times - 2) * loss < least:
        return None
    return (least + (times - 1) * loss, gain * times, top - (times - 1) * loss)


def small_rows(longest, reach):
    for length in range(longest + 1):
        for row in itertools.product(range(-reach, reach + 1), repeat=length):
            yield list(row)


def every_effect(store, reach):
    """Each tuple of which point [7] holds, with a gain of at most reach either way."""
    for least, gain, top in itertools.product(range(store + 1), range(-reach, reach + 1), range(store + 1)):
        if least + gain >= 0 and top <= store + gain:
            yield (least, gain, top)


def drawn_rows(seed, many, longest, reach):
    draw = random.Random(seed)
    for number in range(many):
        yield [draw.randint(-reach, reach) for place in range(draw.randint(0, longest))]
