"""Flat modules: a module with all that it calls put in place, and what it tells beat by beat."""

from clockloom.books import MEASURE
from clockloom.errors import NoFlow, NoWay
from clockloom.facing import faced_in
from clockloom.flattening import flat_of
from clockloom.going import Plan
from clockloom.shapes import flows_of
from clockloom.things import is_whole

MOST_FLAT = 2000


def flat(book, name):
    """The flat module of a module."""
    return flat_of(book, name, MOST_FLAT)


def _led_to(book, name, way):
    """The modules to which a way leads, from the first one on."""
    if not isinstance(way, tuple):
        raise NoWay("a way is a tuple of numbers of rows")
    modules = [book.held(name)]
    for k in way:
        rows = modules[-1][3]
        if not is_whole(k) or not 0 <= k < len(rows) or rows[k][1][0] != "call":
            raise NoWay("each number of a way is that of a row that is a call")
        modules.append(book.held(rows[k][1][1]))
    return modules


def _told_by_call(module, x):
    """(k, i) for the i-th target of the call in row k, None for another flow."""
    for k, (targets, e) in enumerate(module[3]):
        if e[0] == "call" and x in targets:
            return (k, targets.index(x))
    return None


def _named(book, modules, way, x):
    """The flat name of a flow of the last of some modules: that of the flow for which it stands, down or up."""
    while True:
        below = _told_by_call(modules[-1], x)
        if below is not None:
            k, i = below
            modules.append(book.held(modules[-1][3][k][1][1]))
            way.append(k)
            x = modules[-1][2][i]
            continue
        if not way or x not in modules[-1][1]:
            break
        part = modules[-2][3][way[-1]][1][2][modules[-1][1].index(x)]
        if part[0] != "flow":
            break
        modules.pop()
        way.pop()
        x = part[1]
    return "".join([f"{k}." for k in way]) + x


def flat_name(book, name, way, x):
    """The flat name of a flow, seen by a way."""
    faced_in(book, name)
    modules = _led_to(book, name, way)
    if x not in flows_of(modules[-1]):
        raise NoFlow(x)
    return _named(book, modules, list(way), x)


def told_flat(flat, beats, *, measure=MEASURE):
    """A dict of the outs at each of some beats, by the rows of a flat module."""
    plan = Plan(flat, measure)
    cells = plan.cell_begins
    told = []
    for handed in beats:
        worths, cells = plan.beat(cells, handed)
        told.append(plan.told_outs(worths))
    return told
