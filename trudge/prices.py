"""The least costs to come to a goal where strength is sold, from each place and level.

Costs are lists of lists: for each place, for each level from 0 to the store, a cost or None.
"""

from trudge.floors import is_within
from trudge.lands import CHANGE, END, MANY, START, WAYS
from trudge.spots import LEVEL, PLACE
from trudge.steps import is_whole, stepped

WAY = "way"
BUY = "buy"

# A move: a step of a plan with the spot ahead of it, the spot behind it, and what it costs.
STEP = 0
AHEAD = 1
BEHIND = 2
COST = 3


def moves_by_way(store, number, way):
    behind = [stepped(store, level, way[CHANGE]) for level in range(store + 1)]
    return [((WAY, number), (way[START], level), (way[END], behind[level]), 0)
            for level in range(store + 1) if behind[level] is not None]


def moves_by_price(store, place, price):
    # One at a time: who buys more does it by several such moves. From above, since what a level
    # costs hangs on the one above it.
    return [((BUY, 1), (place, level), (place, level + 1), price) for level in range(store - 1, -1, -1)]


def all_moves(land, store, prices):
    moves = []
    for number, way in enumerate(land[WAYS]):
        moves.extend(moves_by_way(store, number, way))
    for place, price in enumerate(prices):
        if price is not None:
            moves.extend(moves_by_price(store, place, price))
    return moves


def cost_at(costs, spot):
    return costs[spot[PLACE]][spot[LEVEL]]


def cost_by(costs, move):
    behind = cost_at(costs, move[BEHIND])
    return None if behind is None else behind + move[COST]


def costs_at_goal(land, store, goal):
    costs = [[None] * (store + 1) for place in range(land[MANY])]
    for level in range(goal[LEVEL], store + 1):
        costs[goal[PLACE]][level] = 0
    return costs


def settled_costs(land, store, prices, goal):
    # The least costs, and for each place and level the move that made the cost fall last, or None.
    # These moves lead to the goal: only what costs less takes the place of another one, so no round
    # of them is ever closed.
    costs = costs_at_goal(land, store, goal)
    ons = [[None] * (store + 1) for place in range(land[MANY])]
    moves = all_moves(land, store, prices)
    falls = True
    while falls:
        falls = False
        for move in moves:
            if not is_within(cost_at(costs, move[AHEAD]), cost_by(costs, move)):
                costs[move[AHEAD][PLACE]][move[AHEAD][LEVEL]] = cost_by(costs, move)
                ons[move[AHEAD][PLACE]][move[AHEAD][LEVEL]] = move
                falls = True
    return (costs, ons)


def costs_to(land, store, prices, goal):
    return settled_costs(land, store, prices, goal)[0]


def is_cost(thing):
    return thing is None or is_whole(thing) and thing >= 0


def are_costs(many, store, thing):
    if not isinstance(thing, list) or len(thing) != many:
        return False
    if not all([isinstance(row, list) and len(row) == store + 1 for row in thing]):
        return False
    return all([all([is_cost(cost) for cost in row]) for row in thing])


def is_price_floor(land, store, prices, goal, table):
    if not are_costs(land[MANY], store, table):
        return False
    if not all([cost == 0 for cost in table[goal[PLACE]][goal[LEVEL]:]]):
        return False
    moves = all_moves(land, store, prices)
    return all([is_within(cost_at(table, move[AHEAD]), cost_by(table, move)) for move in moves])
