"""The highest levels with which any walk comes to each place, and trips that come there with them.

Rows of tables are built, each with what one way more can do. Without a round that gives more than
it takes, no walk needs as many ways as there are places, so the rows soon rise no more. Where the
last one still rises, the walk behind it holds such a round; walked often enough it fills the store
at one of its places. There the level is the store from then on, and the rows are built anew: so
often at most as there are places.
"""

from trudge.effects import GAIN, TOP, effect_of
from trudge.lands import END, MANY, WAYS, changes_of
from trudge.rows import BY, FROM, RISEN, TABLE, first_row, row_behind, walk_to
from trudge.steps import levels_along
from trudge.trips import NUMBERS, TIMES, end_of


def rows_from(land, store, table):
    # The rows that rise above the one ahead, one more at most than there are places.
    rows = []
    row = first_row(table)
    while len(rows) < land[MANY]:
        rows.append(row)
        row = row_behind(land, store, row[TABLE], row[TABLE])
        if row[TABLE] == rows[-1][TABLE]:
            return rows
    rows.append(row)
    return rows


def still_rises(land, rows):
    return len(rows) > land[MANY]


def rising_walk(land, rows):
    last = rows[-1][RISEN]
    return walk_to(land, rows, [place for place in range(land[MANY]) if last[place] is not None][0])


def parted_at_round(land, walk):
    # The ways ahead of the first round that closes, and those of the round.
    places = [walk[FROM]] + [land[WAYS][number][END] for number in walk[BY]]
    end = 1
    while places[end] not in places[:end]:
        end = end + 1
    begin = places.index(places[end])
    return (walk[BY][:begin], walk[BY][begin:end])


def parts_by(numbers):
    # A part has one way at least.
    return [(numbers, 1)] if len(numbers) > 0 else []


def filling_parts(land, store, level, walk):
    parted = parted_at_round(land, walk)
    ahead = parted[0]
    turn = parted[1]
    effect = effect_of(store, changes_of(land, turn))
    missing = effect[TOP] - levels_along(store, level, changes_of(land, ahead))[-1]
    times = -(-missing // effect[GAIN])
    # From its top the round gives more than it takes and yet comes back no higher: it meets the full store.
    levels = levels_along(store, effect[TOP], changes_of(land, turn))
    return parts_by(ahead) + [(turn, times)] + parts_by(turn[:levels.index(store)])


def settled(land, store, base):
    # The rows that rise no more, and the roads to the places where these begin: a road is like a
    # walk, but has parts in the place of numbers.
    table = list(base)
    roads = [(place, []) for place in range(land[MANY])]
    rows = rows_from(land, store, table)
    while still_rises(land, rows):
        walk = rising_walk(land, rows)
        parts = filling_parts(land, store, table[walk[FROM]], walk)
        full = end_of(land, walk[FROM], parts)
        road = roads[walk[FROM]]
        roads[full] = (road[FROM], road[BY] + parts)
        table[full] = store
        rows = rows_from(land, store, table)
    return (rows, roads)


def highest(land, store, base):
    return settled(land, store, base)[0][-1][TABLE]


def trip_to(land, rows, roads, place):
    walk = walk_to(land, rows, place)
    road = roads[walk[FROM]]
    # Roads to several places have parts in common; each told list is a copy.
    trip = [(list(part[NUMBERS]), part[TIMES]) for part in road[BY]]
    return (road[FROM], trip + parts_by(walk[BY]))


def trips_to(land, store, base):
    found = settled(land, store, base)
    rows = found[0]
    table = rows[-1][TABLE]
    return [None if table[place] is None else trip_to(land, rows, found[1], place) for place in range(land[MANY])]
