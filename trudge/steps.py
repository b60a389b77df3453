"""Levels, and what changes make of them one at a time."""


def is_whole(thing):
    # Python counts the truths among its ints; the document does not.
    return isinstance(thing, int) and not isinstance(thing, bool)


def is_store(thing):
    return is_whole(thing) and 0 <= thing <= 10 ** 20


def is_level(store, thing):
    return is_whole(thing) and 0 <= thing <= store


def stepped(store, level, change):
    behind = level + change
    if behind < 0:
        return None
    return min(behind, store)


def levels_along(store, level, changes):
    levels = [level]
    for change in changes:
        behind = stepped(store, levels[-1], change)
        if behind is None:
            return levels
        levels.append(behind)
    return levels
