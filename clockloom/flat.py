"""Flat modules: a module with all that it calls put in place, and what it tells beat by beat."""

from clockloom.books import MEASURE
from clockloom.errors import NoFlow, NoWay
from clockloom.facing import faced_in
from clockloom.flattening import flat_of
from clockloom.going import Plan
from clockloom.molds import molds_of
from clockloom.things import is_whole

MOST_FLAT = 2000


def flat(book, name):
    """The flat module of a module."""
    return flat_of(book, name, MOST_FLAT)


def _call_at(mold, k):
    """The Call that is row k."""
    if not is_whole(k) or not 0 <= k < len(mold.rows) or mold.rows[k][1] is None:
        raise NoWay("each number of a way is that of a row that is a call")
    return mold.rows[k][1]


def flat_name(book, name, way, x):
    """The flat name of a flow, seen by a way."""
    faced_in(book, name)
    molds = molds_of(book, name)
    mold = molds[name]
    prefix = ""
    names = mold.names(prefix, list(mold.module[1]))
    if not isinstance(way, tuple):
        raise NoWay("a way is a tuple of numbers of rows")
    for k in way:
        call = _call_at(mold, k)
        mold = molds[call.name]
        prefix += call.tail
        names = mold.names(prefix, [names[at] for at in call.ins])
    if x not in mold.number_of:
        raise NoFlow(x)
    return names[mold.number_of[x]]


def told_flat(flat, beats, *, measure=MEASURE):
    """A dict of the outs at each of some beats, by the rows of a flat module."""
    plan = Plan(flat, measure)
    cells = plan.cell_begins
    told = []
    for handed in beats:
        worths, cells = plan.beat(cells, handed)
        told.append(plan.told_outs(worths))
    return told
