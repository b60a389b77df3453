"""How soon one comes through: the highest levels behind just so many ways, row by row."""

from trudge.lands import MANY
from trudge.lids import covers, leads_within
from trudge.rows import BY, TABLE, first_row, row_behind, walk_to
from trudge.spots import PLACE, base_at, has_enough
from trudge.tables import are_tables


def soonest(land, store, begin, goal, most):
    nowhere = [None] * land[MANY]
    rows = [first_row(base_at(land[MANY], begin))]
    while len(rows) <= most and not has_enough(rows[-1][TABLE], goal):
        rows.append(row_behind(land, store, rows[-1][TABLE], nowhere))
    tables = [row[TABLE] for row in rows]
    if not has_enough(tables[-1], goal):
        return ("not", tables)
    return ("through", walk_to(land, rows, goal[PLACE])[BY], tables[:-1])


def is_showing(land, store, begin, goal, rows):
    if not are_tables(land[MANY], store, rows):
        return False
    if len(rows) > 0 and not covers(rows[0], base_at(land[MANY], begin)):
        return False
    if any([has_enough(row, goal) for row in rows]):
        return False
    return all([leads_within(land, store, row, behind) for row, behind in zip(rows, rows[1:])])
