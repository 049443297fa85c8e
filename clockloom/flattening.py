"""Modules put flat: one row for each expression, with all that is called put in place."""

from heapq import heappop, heappush

from clockloom.errors import TooLong
from clockloom.facing import faced_in
from clockloom.molds import many_rows, molds_of

# Stands among names for one that is ever there.
ALWAYS = ""


class Spreading:
    """The rows that a module and all that it calls make, each behind those for which it asks.

    They are made in the order told. One that asks for what hasn't come yet waits for that, and comes
    ahead of all that are made later as soon as it may.
    """

    def __init__(self, molds, ins):
        self.rows = []
        self._molds = molds
        self._there = {x: True for x in [ALWAYS, *ins]}
        # All rows that had to wait, with what they ask for, and by names the numbers of those that wait for them.
        self._left = []
        self._waiting = {}

    def spread(self, name, prefix, ins, base):
        """Makes the rows of a module by the way with this beginning of names, the names of its ins and its base."""
        mold = self._molds[name]
        names = mold.names(prefix, ins)
        things = names + [("flow", x) for x in names] + mold.constants
        clocks = [base + tuple([(names[c], b) for c, b in own]) for own in mold.clocks]
        # What has no conditions of its own goes by the last one of the base.
        names.append(base[-1][0] if base else ALWAYS)
        for made, call in mold.rows:
            for at, deed, clock, asked in made:
                row = (names[at], _filled(deed, things), clocks[clock])
                for other in asked:
                    if names[other] not in self._there:
                        self._wait(names[other], row, asked, names)
                        break
                else:
                    self._come(row)
            if call is not None:
                below = [names[at] for at in call.ins]
                self.spread(call.name, prefix + call.tail, below, clocks[call.clock])

    def _wait(self, lacking, row, asked, names):
        """A row waits for a name that it lacks; asked has the numbers of all that it asks for among names."""
        self._waiting.setdefault(lacking, []).append(len(self._left))
        self._left.append((row, asked, names))

    def _come(self, row):
        """A row comes, and those that waited for it and lack nothing more, the one made first ahead."""
        self.rows.append(row)
        self._there[row[0]] = True
        if row[0] not in self._waiting:
            return
        ready = sorted(self._waiting.pop(row[0]))
        while ready:
            number = heappop(ready)
            other, asked, names = self._left[number]
            lacking = [names[at] for at in asked if names[at] not in self._there]
            if lacking:
                self._waiting.setdefault(lacking[0], []).append(number)
                continue
            self.rows.append(other)
            self._there[other[0]] = True
            for more in self._waiting.pop(other[0], ()):
                heappush(ready, more)


def _filled(deed, things):
    """A deed whose things are told by their numbers."""
    if len(deed) == 1:
        return things[deed[0]]
    if len(deed) == 3:
        return (things[deed[0]], things[deed[1]], things[deed[2]])
    return tuple([things[at] for at in deed])


def _made_flat(book, name, most):
    seen = faced_in(book, name)[name]
    if many_rows(book, name) > most:
        raise TooLong("the flat module would have too many rows")
    molds = molds_of(book, name)
    spreading = Spreading(molds, seen.ins)
    spreading.spread(name, "", list(seen.ins), ())
    ins = []
    for x, kind, conditions in zip(seen.ins, seen.face[0], seen.face[1]):
        ins.append((x, "truth" if kind == "truth" else "number", conditions))
    outs = [(x, molds[name].out_tail(i)) for i, x in enumerate(seen.outs)]
    return (ins, outs, spreading.rows)


def flat_of(book, name, most):
    """The flat module of a module; refused where it has no face, or would have more than most rows."""
    if name not in book.flats:
        book.flats[name] = _made_flat(book, name, most)
    ins, outs, rows = book.flats[name]
    return (list(ins), list(outs), list(rows))
