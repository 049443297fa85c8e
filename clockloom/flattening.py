"""Modules put flat: one row for each expression, with all that is called put in place."""

from heapq import heappop, heappush

from clockloom.errors import TooLong
from clockloom.facing import faced_in
from clockloom.molds import many_rows, molds_of


class Spreading:
    """The rows that a module and all that it calls make, each behind those that it asks for.

    They are made in the order told; one that asks for a name that isn't told yet waits, and comes
    ahead of all that are made later as soon as it may.
    """

    def __init__(self, molds, ins):
        self.rows = []
        self._molds = molds
        self._told = {x: True for x in ins}
        self._many_made = 0
        # By names that are asked for, the numbers of the rows that wait; by numbers those rows, and how
        # many names each of them lacks.
        self._behind = {}
        self._waiting = {}
        self._lacks = {}

    def spread(self, name, prefix, ins, base):
        """Makes the rows of a module by the way with this beginning of names, the names of its ins and its base."""
        mold = self._molds[name]
        names = mold.names(prefix, ins)
        things = names + [("flow", x) for x in names] + mold.constants
        clocks = [base + tuple([(names[c], b) for c, b in own]) for own in mold.clocks]
        told = self._told
        for made, call in mold.rows:
            for at, deed, clock, asked in made:
                row = (names[at], _filled(deed, things), clocks[clock])
                lacking = [names[other] for other in asked if names[other] not in told]
                if not clock and base and base[-1][0] not in told:
                    lacking.append(base[-1][0])
                self._come(row, lacking)
            if call is not None:
                below = [names[at] for at in call.ins]
                self.spread(call.name, prefix + call.tail, below, clocks[call.clock])

    def _come(self, row, lacking):
        """A row is made that lacks some names."""
        number = self._many_made
        self._many_made += 1
        if lacking:
            self._waiting[number] = row
            self._lacks[number] = len(lacking)
            for x in lacking:
                self._behind.setdefault(x, []).append(number)
            return
        self.rows.append(row)
        self._told[row[0]] = True
        if row[0] in self._behind:
            self._tell_waiting(row[0])

    def _tell_waiting(self, x):
        """Tells those rows that wait for nothing more, once a name is told."""
        ready = []
        self._let_go(x, ready)
        while ready:
            row = self._waiting.pop(heappop(ready))
            self.rows.append(row)
            self._told[row[0]] = True
            self._let_go(row[0], ready)

    def _let_go(self, x, ready):
        for number in self._behind.pop(x, []):
            self._lacks[number] -= 1
            if self._lacks[number] == 0:
                heappush(ready, number)


def _filled(deed, things):
    """A deed whose things are told by their numbers."""
    if len(deed) == 1:
        return things[deed[0]]
    if len(deed) == 3:
        return (things[deed[0]], things[deed[1]], things[deed[2]])
    return tuple([things[at] for at in deed])


def _made_flat(book, name, most):
    seen = faced_in(book, name)[name]
    if many_rows(book, name) > most:
        raise TooLong("the flat module would have too many rows")
    molds = molds_of(book, name)
    spreading = Spreading(molds, seen.ins)
    spreading.spread(name, "", list(seen.ins), ())
    ins = []
    for x, kind, conditions in zip(seen.ins, seen.face[0], seen.face[1]):
        ins.append((x, "truth" if kind == "truth" else "number", conditions))
    outs = [(x, molds[name].out_tail(i)) for i, x in enumerate(seen.outs)]
    return (ins, outs, spreading.rows)


def flat_of(book, name, most):
    """The flat module of a module; refused where it has no face, or would have more than most rows."""
    if name not in book.flats:
        book.flats[name] = _made_flat(book, name, most)
    ins, outs, rows = book.flats[name]
    return (list(ins), list(outs), list(rows))
