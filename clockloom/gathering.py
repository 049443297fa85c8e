"""Rows put into an order in which those that stand at the same conditions stand together."""

from clockloom.tracks import shared_ifs
from clockloom.waiting import Waiting


def _nearest(ready, ahead):
    """Of the conditions at which rows are ready those for which the fewest ifs are left or begun."""
    told = None
    best = None
    for conditions in ready:
        shared, same = shared_ifs(ahead, conditions)
        # To stay within an if goes ahead of leaving it, its second list ahead of what is outside; an
        # if is begun by its first list, where that may be, as none can come back to it.
        second = len(conditions) > shared and not conditions[shared][1]
        rank = (-same, -shared, second, len(conditions), ready[conditions][0])
        if best is None or rank < best:
            best = rank
            told = conditions
    return told


def gathered_rows(rows):
    """The rows, each behind those that it asks for, else where no if needs to be left for it."""
    waiting = Waiting(rows)
    ready = {}
    told = []
    ahead = ()
    fresh_ones = waiting.begin()
    while fresh_ones or ready:
        for number in fresh_ones:
            conditions = rows[number][2]
            if conditions not in ready:
                ready[conditions] = []
            ready[conditions].append(number)
        if ahead not in ready:
            ahead = _nearest(ready, ahead)
        number = ready[ahead].pop()
        if not ready[ahead]:
            del ready[ahead]
        told.append(rows[number])
        fresh_ones = waiting.behind(number)
    return told
