"""Modules put flat: one row for each expression, with all that is called put in place."""

from heapq import heappop, heappush

from clockloom.errors import TooLong
from clockloom.facing import faced_in
from clockloom.shapes import NAME_SPOTS, PART_SPOTS, parts_of, walk
from clockloom.waiting import Waiting
from clockloom.within import Within, flat_name_of, made_name

PLAIN = ("num", "truth", "flow")


def _makes_row(whole, path, e):
    """Whether an expression at a path in a row makes a row of its own, or of the row's."""
    if whole[0] == "call":
        return bool(path) and (e[0] not in PLAIN or (len(path) == 1 and e[0] != "flow"))
    return not path or e[0] not in PLAIN


def _many_rows(seen, name, many):
    """How many rows a module makes with all that it calls; many keeps those that are counted."""
    if name not in many:
        rows = seen[name].module[3]
        count = 0
        for k, path, e in walk(rows):
            if _makes_row(rows[k][1], path, e):
                count += 1
            if e[0] == "call":
                count += _many_rows(seen, e[1], many)
        many[name] = count
    return many[name]


class Spreading:
    """The rows that a module and all that it calls make, in the order in which they are made."""

    def __init__(self):
        self.rows = []

    def spread(self, within, base):
        """Makes the rows of a module whose base has these conditions."""
        clocks = {(): base}
        for k, (_, whole) in enumerate(within.module[3]):
            self._make(within, clocks, k, (), whole)
            if whole[0] == "call":
                self.spread(within.below(k), _conditions(within, clocks, (k, ())))

    def _make(self, within, clocks, k, path, e):
        """Makes the rows of an expression, its parts ahead of itself."""
        for i, part in enumerate(parts_of(e)):
            self._make(within, clocks, k, (*path, i), part)
        if _makes_row(within.module[3][k][1], path, e):
            conditions = _conditions(within, clocks, (k, path))
            self.rows.append((made_name(within, k, path), _deed(within, k, path, e), conditions))


def _conditions(within, clocks, place):
    """The conditions of a place, from the outermost call on; clocks keeps those that are told."""
    own = within.conditions[place]
    if own not in clocks:
        clocks[own] = clocks[()] + tuple([(flat_name_of(within, c), b) for c, b in own])
    return clocks[own]


def _atom(within, k, path, part):
    if part[0] in ("num", "truth"):
        return part
    if part[0] == "flow":
        return ("flow", flat_name_of(within, part[1]))
    return ("flow", made_name(within, k, path))


def _deed(within, k, path, e):
    """The expression with atoms as its parts, and with flat names."""
    made = list(e)
    if e[0] in NAME_SPOTS:
        spot = NAME_SPOTS[e[0]]
        made[spot] = flat_name_of(within, e[spot])
    for i, spot in enumerate(PART_SPOTS.get(e[0], ())):
        made[spot] = _atom(within, k, (*path, i), e[spot])
    return tuple(made)


def _sorted_rows(rows):
    """The rows, each behind those that it asks for, else in the order in which they were made."""
    waiting = Waiting(rows)
    ready = waiting.first_ones()
    told = []
    while ready:
        number = heappop(ready)
        told.append(rows[number])
        for other in waiting.behind(number):
            heappush(ready, other)
    return told


def flat_of(book, name, most):
    """The flat module of a module; refused where it has no face, or would have more than most rows."""
    seen = faced_in(book, name)
    if _many_rows(seen, name, {}) > most:
        raise TooLong("the flat module would have too many rows")
    top = Within(seen, name)
    spreading = Spreading()
    spreading.spread(top, ())
    face = seen[name].face
    ins = []
    for x, kind, conditions in zip(top.module[1], face[0], face[1]):
        ins.append((x, "truth" if kind == "truth" else "number", conditions))
    outs = [(x, flat_name_of(top, x)) for x in top.module[2]]
    return (ins, outs, _sorted_rows(spreading.rows))
