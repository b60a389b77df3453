"""The keeper of a land whose ways come, go and change, of a store and of a goal."""

from trudge.errors import BadGoal, BadLabel, BadStore, BadWay, NoWay, Taken, TooMany
from trudge.floors import is_within
from trudge.highest import highest
from trudge.lands import CHANGE, END, MOST_WAYS, START, is_change, is_way
from trudge.least import least, trips_on
from trudge.steps import is_store, is_whole
from trudge.stores import least_store
from trudge.tables import is_table


def is_label(thing):
    return is_whole(thing) and 1 <= thing <= 10 ** 18


def places_below(table, other):
    # Where the table has less than the other one; None is more than each level.
    return [place for place in range(len(table)) if not is_within(other[place], table[place])]


class Keeper:
    def __init__(self, many, store, goal):
        self.many = many
        self.full = store
        self.wanted = list(goal)
        self.laid = {}
        self.lowest = least((many, []), store, goal)

    def lay(self, label, start, end, change):
        if not is_label(label):
            raise BadLabel("a label is a whole number from 1 to 10 ** 18")
        if label in self.laid:
            raise Taken(label)
        if not is_way(self.many, (start, end, change)):
            raise BadWay("a way has two places of the land and a change")
        if len(self.laid) >= MOST_WAYS:
            raise TooMany(MOST_WAYS)
        self.laid[label] = (start, end, change)
        return self.moved()

    def lift(self, label):
        self.found(label)
        self.laid.pop(label)
        return self.moved()

    def turn(self, label, change):
        way = self.found(label)
        if not is_change(change):
            raise BadWay("a change is a whole number from -10 ** 18 to 10 ** 18")
        self.laid[label] = (way[START], way[END], change)
        return self.moved()

    def refill(self, store):
        if not is_store(store) or not is_table(self.many, store, self.wanted):
            raise BadStore("a store is a whole number from 0 to 10 ** 20 that holds the levels of the goal")
        self.full = store
        return self.moved()

    def aim(self, goal):
        if not is_table(self.many, self.full, goal):
            raise BadGoal("a goal is a table for the land and the store")
        self.wanted = list(goal)
        return self.moved()

    def found(self, label):
        # What is no label may not be looked for: it might be a truth, or nothing that a dict takes.
        if not is_label(label) or label not in self.laid:
            raise NoWay(label)
        return self.laid[label]

    def moved(self):
        ahead = self.lowest
        self.lowest = least(self.land(), self.full, self.wanted)
        return (places_below(self.lowest, ahead), places_below(ahead, self.lowest))

    def ways(self):
        told = []
        for label in sorted(self.laid):
            way = self.laid[label]
            told.append((label, way[START], way[END], way[CHANGE]))
        return told

    def store(self):
        return self.full

    def goal(self):
        return list(self.wanted)

    def land(self):
        return (self.many, [self.laid[label] for label in sorted(self.laid)])

    def least(self):
        return list(self.lowest)

    def trip_from(self, place):
        return trips_on(self.land(), self.full, self.wanted)[place]

    def highest(self, base):
        return highest(self.land(), self.full, base)

    def least_store(self, begin, goal):
        return least_store(self.land(), begin, goal)
