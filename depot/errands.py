"""Errands: the walk that fetches rows, and the rows in the order of its stops."""

from depot.plans import need_plan
from depot.walks import stops, walk


def errand(plan, rows):
    # Ahead of any look at the rows: no plan is told first.
    need_plan(plan)
    bins = [row[0] for row in rows]
    spots = walk(plan, bins)
    turns = dict([(spot, turn) for turn, spot in enumerate(stops(plan, spots, bins))])
    # Sorting leaves rows of one bin and lot as they came.
    return (spots, sorted(rows, key=lambda row: (turns[row[0]], row[1])))
