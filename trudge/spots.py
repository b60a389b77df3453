"""Spots: tuples (place, level), where one begins or is to come, and with what."""

PLACE = 0
LEVEL = 1


def base_at(many, spot):
    base = [None] * many
    base[spot[PLACE]] = spot[LEVEL]
    return base


def has_enough(table, goal):
    level = table[goal[PLACE]]
    return level is not None and level >= goal[LEVEL]
