"""Plans: lists of steps ("way", number) and ("buy", many), what they cost and the cheapest of them."""

from trudge.errors import BadPlan
from trudge.lands import CHANGE, END, START, WAYS, is_place
from trudge.prices import BEHIND, BUY, STEP, WAY, cost_at, settled_costs
from trudge.spots import LEVEL, PLACE
from trudge.steps import stepped

# What is had behind some steps: a spot, and what was paid.
PAID = 2


def behind_walking(land, store, had, number):
    # None where the way can't be walked from here; likewise below, where so much can't be bought.
    if not is_place(len(land[WAYS]), number):
        return None
    way = land[WAYS][number]
    level = stepped(store, had[LEVEL], way[CHANGE])
    if way[START] != had[PLACE] or level is None:
        return None
    return (way[END], level, had[PAID])


def behind_buying(store, prices, had, many):
    price = prices[had[PLACE]]
    if price is None or many < 1 or had[LEVEL] + many > store:
        return None
    return (had[PLACE], had[LEVEL] + many, had[PAID] + many * price)


def behind_step(land, store, prices, had, step):
    if step[0] == WAY:
        return behind_walking(land, store, had, step[1])
    return behind_buying(store, prices, had, step[1])


def paid(land, store, prices, begin, plan):
    had = (begin[PLACE], begin[LEVEL], 0)
    for at, step in enumerate(plan):
        had = behind_step(land, store, prices, had, step)
        if had is None:
            raise BadPlan(at)
    return had


def with_step(plan, step):
    # Bought one at a time at one place, it is told as one step.
    if step[0] == BUY and len(plan) > 0 and plan[-1][0] == BUY:
        return plan[:-1] + [(BUY, plan[-1][1] + step[1])]
    return plan + [step]


def plan_by(ons, begin):
    plan = []
    move = cost_at(ons, begin)
    while move is not None:
        plan = with_step(plan, move[STEP])
        move = cost_at(ons, move[BEHIND])
    return plan


def cheapest(land, store, prices, begin, goal):
    found = settled_costs(land, store, prices, goal)
    cost = cost_at(found[0], begin)
    if cost is None:
        return None
    return (cost, plan_by(found[1], begin))
