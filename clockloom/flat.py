"""Flat modules: a module with all that it calls put in place, and what it tells beat by beat."""

from clockloom.books import MEASURE
from clockloom.errors import NoFlow, NoWay
from clockloom.facing import faced_in
from clockloom.flattening import flat_of
from clockloom.going import Plan
from clockloom.shapes import flows_of
from clockloom.things import is_whole
from clockloom.within import Within, flat_name_of

MOST_FLAT = 2000


def flat(book, name):
    """The flat module of a module."""
    return flat_of(book, name, MOST_FLAT)


def _led_to(within, way):
    """The module to which a way leads."""
    if not isinstance(way, tuple):
        raise NoWay("a way is a tuple of numbers of rows")
    for k in way:
        if not is_whole(k) or not within.calls(k):
            raise NoWay("each number of a way is that of a row that is a call")
        within = within.below(k)
    return within


def flat_name(book, name, way, x):
    """The flat name of a flow, seen by a way."""
    within = _led_to(Within(faced_in(book, name), name), way)
    if x not in flows_of(within.module):
        raise NoFlow(x)
    return flat_name_of(within, x)


def told_flat(flat, beats, *, measure=MEASURE):
    """A dict of the outs at each of some beats, by the rows of a flat module."""
    plan = Plan(flat, measure)
    cells = plan.cell_begins
    told = []
    for handed in beats:
        worths, cells = plan.beat(cells, handed)
        told.append(plan.told_outs(worths))
    return told
