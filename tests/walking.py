"""Rows, lands and trips walked without the package: what the tests hold its answers against."""

import heapq
import itertools
import random


def walked(store, level, changes):
    for change in changes:
        level += change
        if level < 0:
            return None
        if level > store:
            level = store
    return level


def effect_by_walking(store, changes):
    """The effect found by walking from each level, for small stores."""
    through = [level for level in range(store + 1) if walked(store, level, changes) is not None]
    if not through:
        return None
    return (through[0], sum(changes), walked(store, store, changes))


def effect_by_sums(store, changes):
    """The effect found from the sums of the row's beginnings, for any store."""
    sums = [0] + list(itertools.accumulate(changes))
    highest = 0
    top = store
    for height in sums:
        highest = max(highest, height)
        top = store + height - highest
        if top < 0:
            return None
    return (max(-height for height in sums), sums[-1], top)


def repeated_by_rule(store, effect, times):
    """A repeated effect without joining: behind the first time each one shifts by the gain."""
    if times == 0:
        return (0, 0, store)
    least, gain, top = effect
    loss = max(0, -gain)
    if times > 1 and top - (times - 2) * loss < least:
        return None
    return (least + (times - 1) * loss, gain * times, top - (times - 1) * loss)


def small_rows(longest, reach):
    for length in range(longest + 1):
        for row in itertools.product(range(-reach, reach + 1), repeat=length):
            yield list(row)


def every_effect(store, reach):
    """Each tuple of which point [7] holds, with a gain of at most reach either way."""
    for least, gain, top in itertools.product(range(store + 1), range(-reach, reach + 1), range(store + 1)):
        if least + gain >= 0 and top <= store + gain:
            yield (least, gain, top)


def drawn_rows(seed, many, longest, reach):
    draw = random.Random(seed)
    for number in range(many):
        yield [draw.randint(-reach, reach) for place in range(draw.randint(0, longest))]


def every_way(many, reach):
    return list(itertools.product(range(many), range(many), range(-reach, reach + 1)))


def small_lands(many, most, reach):
    for length in range(most + 1):
        for ways in itertools.combinations_with_replacement(every_way(many, reach), length):
            yield (many, list(ways))


def drawn_land(draw, places, most, reach):
    many = draw.randint(1, places)
    near = draw.choice((reach, reach, min(reach, 3)))
    return (many, [(draw.randrange(many), draw.randrange(many), draw.randint(-draw.choice((reach, near)), near))
                   for number in range(draw.randint(0, most))])


def drawn_table(draw, many, store):
    levels = [draw.choice((None, 0, store, draw.randint(0, store), draw.randint(0, store))) for place in range(many)]
    if draw.random() < 0.5:
        # One place alone, so that the others are come to by ways.
        alone = draw.randrange(many)
        levels = [level if place == alone else None for place, level in enumerate(levels)]
    return levels


def every_table(many, store):
    return [list(table) for table in itertools.product([None, *range(store + 1)], repeat=many)]


def drawn_tasks(seed, many, places, most, reach, stores):
    """Tuples (land, store, table)."""
    draw = random.Random(seed)
    for number in range(many):
        land = drawn_land(draw, places, most, reach)
        store = draw.choice(stores)
        yield (land, store, drawn_table(draw, land[0], store))


def great_tasks(seed, many):
    """Tasks of lands and stores up to the bounds that the document tells."""
    for number, reach in enumerate((1, 3, 10 ** 9, 10 ** 17, 10 ** 18)):
        stores = (0, 10 ** 9, 10 ** 18, 10 ** 19 + 7, 10 ** 20)
        for most in (12, 20, 40):
            yield from drawn_tasks(repr((seed, number, most)), many, 12, most, reach, stores)


def chain_of_fillings(many, store):
    """A land where each place must be filled, one at a time, ahead of the next."""
    ways = [(place, place, 1) for place in range(many)]
    return (many, ways + [(place, place + 1, -store) for place in range(many - 1)])


def highest_by_states(land, store, base):
    """All walks gone through, level by level."""
    met = {(place, level) for place, level in enumerate(base) if level is not None}
    ahead = list(met)
    while ahead:
        place, level = ahead.pop()
        for start, end, change in land[1]:
            behind = (end, walked(store, level, [change]))
            if start == place and behind[1] is not None and behind not in met:
                met.add(behind)
                ahead.append(behind)
    return [max((level for here, level in met if here == place), default=None) for place in range(land[0])]


def least_by_states(land, store, goal):
    """All levels of all places from which a walk comes through, found from the goal on."""
    through = {(place, level) for place in range(land[0]) for level in range(store + 1)
               if goal[place] is not None and level >= goal[place]}
    many = -1
    while many != len(through):
        many = len(through)
        through |= {(start, level) for start, end, change in land[1] for level in range(store + 1)
                    if (end, walked(store, level, [change])) in through}
    return [min((level for here, level in through if here == place), default=None) for place in range(land[0])]


def numbers_walked(trip):
    """The numbers of the ways of a trip, each as often as it is walked."""
    return [number for numbers, times in trip for number in numbers * times]


def place_behind(land, place, trip):
    """The end of a trip; fails where a part or a way doesn't keep to what the document tells of it."""
    for numbers, times in trip:
        begin = place
        assert isinstance(numbers, list) and numbers and 1 <= times <= 10 ** 24, trip
        for number in numbers:
            assert 0 <= number < len(land[1]) and land[1][number][0] == place, trip
            place = land[1][number][1]
        assert times == 1 or place == begin, trip
    return place


def level_behind(land, store, level, trip):
    """The arrival of a trip of any times, by the sums of its ways."""
    for numbers, times in trip:
        once = effect_by_sums(store, [land[1][number][2] for number in numbers])
        many = None if once is None else repeated_by_rule(store, once, times)
        if many is None or level < many[0]:
            return None
        level = min(level + many[1], many[2])
    return level


def is_lid_by_words(land, store, base, table):
    for place, level in enumerate(base):
        if level is not None and (table[place] is None or table[place] < level):
            return False
    for start, end, change in land[1]:
        if table[start] is not None:
            behind = walked(store, table[start], [change])
            if behind is not None and (table[end] is None or table[end] < behind):
                return False
    return True


def least_ahead(store, wanted, change):
    """The least level of which the change makes the wanted one or more, of all there are."""
    if store > 1000:
        around = (0, wanted - change - 1, wanted - change, wanted - change + 1, store)
        levels = sorted(level for level in around if 0 <= level <= store)
    else:
        levels = range(store + 1)
    for level in levels:
        behind = walked(store, level, [change])
        if behind is not None and behind >= wanted:
            return level
    return None


def is_floor_by_words(land, store, goal, table):
    for place, level in enumerate(goal):
        if level is not None and (table[place] is None or table[place] > level):
            return False
    for start, end, change in land[1]:
        if table[end] is not None:
            ahead = least_ahead(store, table[end], change)
            if ahead is not None and (table[start] is None or table[start] > ahead):
                return False
    return True


def put_otherwise(store, table):
    """The tables that differ from this one at one place: a little, as far as can be, by None."""
    for place, level in enumerate(table):
        near = (None, 0, 1, store) + (() if level is None else (level - 1, level + 1))
        for other in set(near) - {level}:
            if other is None or 0 <= other <= store:
                yield table[:place] + [other] + table[place + 1:]


NO_TABLES = (
    None, True, False, 0, 1, "", "01", b"01", (), (0, 0), {}, {0: 0, 1: 0}, {0, 1}, range(2), object(), int, len,
    iter([0, 0]), ValueError(0, 0), [], [0], [None], [0, 0, 0], [None, None, None], [[0, 0]], [0, [0]], [[0], 0],
    [0, True], [False, 0], [True, None], [0, "0"], ["", 0], [0, (0,)], [(), 0], [{}, 0], [0, object()], [0, int],
    [0, -1], [-1, None], [0, 4], [4, None], [10 ** 5000, 0], [0, -10 ** 5000], [None, b"0"], [None, "None"],
)


def states_by_ways(land, store, begin, most):
    """For each number of ways up to most the spots to which walks of just so many come."""
    met = {begin}
    found = [met]
    for number in range(most):
        met = {(end, walked(store, level, [change])) for place, level in met
               for start, end, change in land[1] if start == place}
        met = {spot for spot in met if spot[1] is not None}
        found.append(met)
    return found


def table_of_spots(many, spots):
    return [max((level for here, level in spots if here == place), default=None) for place in range(many)]


def is_showing_by_words(land, store, begin, goal, rows):
    if rows and (rows[0][begin[0]] is None or rows[0][begin[0]] < begin[1]):
        return False
    for row, behind in zip(rows, rows[1:]):
        for start, end, change in land[1]:
            level = None if row[start] is None else walked(store, row[start], [change])
            if level is not None and (behind[end] is None or behind[end] < level):
                return False
    return not any(row[goal[0]] is not None and row[goal[0]] >= goal[1] for row in rows)


def open_bound(land, base):
    """What the document tells as the most that a level without a bound on the store can be."""
    greatest = max([abs(change) for start, end, change in land[1]], default=0)
    return max([level for level in base if level is not None], default=0) + (land[0] - 1) * greatest


def places_on(land, places):
    """The places themselves and all to which ways lead from them, whatever these take."""
    met = set(places)
    for number in range(land[0]):
        met |= {end for start, end, change in land[1] if start in met}
    return met


def boundless_by_sums(land, base):
    """What rises still behind as many ways as there are places has no bound, nor what lies behind it."""
    open_places = set()
    while True:
        table = list(base)
        for number in range(land[0] + 1):
            ahead = list(table)
            for start, end, change in land[1]:
                if ahead[start] is not None and start not in open_places and ahead[start] + change >= 0:
                    table[end] = max(ahead[start] + change, -1 if table[end] is None else table[end])
        rising = {place for place in range(land[0]) if table[place] != ahead[place]} - open_places
        if not rising:
            return ["any" if place in open_places else table[place] for place in range(land[0])]
        open_places = places_on(land, open_places | rising)


def boundless_by_states(land, base, cap):
    """All walks gone through, level by level, as far as the cap; what passes it has no bound."""
    met = {(place, level) for place, level in enumerate(base) if level is not None}
    ahead = list(met)
    passed = set()
    while ahead:
        place, level = ahead.pop()
        for start, end, change in land[1]:
            behind = (end, level + change)
            if start == place and behind[1] > cap:
                passed.add(end)
            elif start == place and behind[1] >= 0 and behind not in met:
                met.add(behind)
                ahead.append(behind)
    open_places = places_on(land, passed)
    return ["any" if place in open_places else level for place, level in enumerate(table_of_spots(land[0], met))]


def is_at_least(one, other):
    """Of levels without a bound: None is less than each number, "any" more."""
    if one == "any" or other is None:
        return True
    return one is not None and other != "any" and one >= other


def is_open_lid_by_words(land, base, table):
    if not all(is_at_least(level, first) for level, first in zip(table, base)):
        return False
    for start, end, change in land[1]:
        if table[start] == "any" and table[end] != "any":
            return False
        if table[start] not in (None, "any") and table[start] + change >= 0:
            if not is_at_least(table[end], table[start] + change):
                return False
    return True


def steps_on(land, store, prices, place, level):
    """Each step of a plan that can be done from a spot: (step, place, level, cost)."""
    for number, (start, end, change) in enumerate(land[1]):
        if start == place and level + change >= 0:
            yield (("way", number), end, min(store, level + change), 0)
    if prices[place] is not None:
        for many in range(1, store - level + 1):
            yield (("buy", many), place, level + many, many * prices[place])


def least_cost_by_plans(land, store, prices, begin, goal):
    """All plans from one spot gone through, the cheaper ones first."""
    ahead = [(0, begin)]
    done = set()
    while ahead:
        cost, spot = heapq.heappop(ahead)
        if spot[0] == goal[0] and spot[1] >= goal[1]:
            return cost
        if spot not in done:
            done.add(spot)
            for step, place, level, more in steps_on(land, store, prices, *spot):
                heapq.heappush(ahead, (cost + more, (place, level)))
    return None


def costs_by_plans(land, store, prices, goal):
    return [[least_cost_by_plans(land, store, prices, (place, level), goal) for level in range(store + 1)]
            for place in range(land[0])]


def is_price_floor_by_words(land, store, prices, goal, table):
    if any(table[goal[0]][level] != 0 for level in range(goal[1], store + 1)):
        return False
    for start, end, change in land[1]:
        for level in range(store + 1):
            behind = walked(store, level, [change])
            if behind is not None and table[end][behind] is not None:
                if table[start][level] is None or table[start][level] > table[end][behind]:
                    return False
    for place, price in enumerate(prices):
        for level in range(store):
            if price is not None and table[place][level + 1] is not None:
                if table[place][level] is None or table[place][level] > table[place][level + 1] + price:
                    return False
    return True


def drawn_prices(draw, many, greatest):
    return [draw.choice((None, 0, 1, greatest, draw.randint(0, greatest), None)) for place in range(many)]


def price_tasks(seed, many, places, most, reach, stores, greatest):
    """Tuples (land, store, prices, goal)."""
    draw = random.Random(seed)
    for number in range(many):
        land = drawn_land(draw, places, most, reach)
        store = draw.choice(stores)
        goal = (draw.randrange(land[0]), draw.choice((0, store, draw.randint(0, store))))
        yield (land, store, drawn_prices(draw, land[0], greatest), goal)


def states_with_springs(land, store, springs, base):
    """All walks gone through, level by level: tuples (place, level, set of the springs that were used)."""
    met = {(place, level, 0) for place, level in enumerate(base) if level is not None}
    ahead = list(met)
    while ahead:
        place, level, used = ahead.pop()
        found = [(end, walked(store, level, [change]), used) for start, end, change in land[1] if start == place]
        found += [(place, min(store, level + gift), used + 2 ** number) for number, (spring, gift) in enumerate(springs)
                  if spring == place and used // 2 ** number % 2 == 0]
        for state in found:
            if state[1] is not None and state not in met:
                met.add(state)
                ahead.append(state)
    return met


def highest_by_by_states(land, store, springs, base):
    met = states_with_springs(land, store, springs, base)
    return [table_of_spots(land[0], [(place, level) for place, level, used in met if used == some])
            for some in range(2 ** len(springs))]


def walked_with_springs(land, store, springs, place, level, trip):
    """(place, level, set of the springs that were used); fails where a trip with springs is none."""
    used = 0
    for part in trip:
        if part[0] == "use":
            spring, gift = springs[part[1]]
            assert spring == place and used // 2 ** part[1] % 2 == 0, trip
            used += 2 ** part[1]
            level = min(store, level + gift)
        else:
            place = place_behind(land, place, [part])
            level = level_behind(land, store, level, [part])
            assert level is not None, trip
    return (place, level, used)


def is_spring_lid_by_words(land, store, springs, base, tables):
    if not all(is_at_least(level, first) for level, first in zip(tables[0], base)):
        return False
    if not all(is_lid_by_words(land, store, [None] * land[0], table) for table in tables):
        return False
    for some, table in enumerate(tables):
        for number, (place, gift) in enumerate(springs):
            if some // 2 ** number % 2 == 0 and table[place] is not None:
                if not is_at_least(tables[some + 2 ** number][place], min(store, table[place] + gift)):
                    return False
    return True


def drawn_springs(draw, land, most, greatest):
    return [(draw.randrange(land[0]), draw.choice((1, greatest, draw.randint(1, greatest))))
            for number in range(draw.randint(0, most))]


def spring_tasks(seed, many, places, ways, reach, stores, most):
    """Tuples (land, store, springs, base)."""
    draw = random.Random(seed)
    for land, store, base in drawn_tasks(seed, many, places, ways, reach, stores):
        yield (land, store, drawn_springs(draw, land, most, max(1, min(reach, 10 ** 18))), base)


def great_spring_tasks(seed, many):
    stores = (0, 10 ** 9, 10 ** 18, 10 ** 20)
    for number, reach in enumerate((1, 10 ** 9, 10 ** 18)):
        for ways in (8, 16):
            yield from spring_tasks(repr((seed, number, ways)), many, 9, ways, reach, stores, 4)
        yield from spring_tasks(repr((seed, number)), many, 12, 40, reach, stores, 1)


def comes_through_with(land, store, springs, some, walker):
    """Whether a walker who may use the springs of a set comes through, all walks gone through."""
    (place, level), (end, enough) = walker
    allowed = [spring for number, spring in enumerate(springs) if some // 2 ** number % 2 == 1]
    base = [level if here == place else None for here in range(land[0])]
    return any(here == end and had >= enough for here, had, used in states_with_springs(land, store, allowed, base))


def needs_by_trying(land, store, springs, walker):
    enough = [some for some in range(2 ** len(springs)) if comes_through_with(land, store, springs, some, walker)]
    return [some for some in enough if not any(other != some and other & some == other for other in enough)]


def shares_by_trying(many_springs, needs):
    """Each list of sets tried, in row; None where none is one of shares."""
    for sets in itertools.product(range(2 ** many_springs), repeat=len(needs)):
        apart = all(one & other == 0 for one, other in itertools.combinations(sets, 2))
        if apart and all(some in need for some, need in zip(sets, needs)):
            return list(sets)
    return None
