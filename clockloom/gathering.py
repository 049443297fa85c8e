"""Rows put into an order in which those that stand at the same conditions stand together."""

from clockloom.waiting import Waiting


class Ready:
    """The rows that may come next, each in its list of an if, these numbered, the outermost one first.

    Of each list it is known in which one it stands, which ones stand in it, its condition, the
    rows that are ready in it, and how many are, those of the lists in it counted too.
    """

    def __init__(self, rows):
        self._above = [None]
        self._below = [[]]
        self._labels = [None]
        self._rows = [[]]
        self._many = [0]
        self._numbers = {}
        self._list_of = [self._list_at(conditions) for _, _, conditions in rows]

    def _list_at(self, conditions):
        at = 0
        for c, b in conditions:
            key = (at, c, b)
            if key not in self._numbers:
                self._numbers[key] = len(self._above)
                self._below[at].append(len(self._above))
                self._above.append(at)
                self._below.append([])
                self._labels.append((c, b))
                self._rows.append([])
                self._many.append(0)
            at = self._numbers[key]
        return at

    def _count(self, at, more):
        while at is not None:
            self._many[at] += more
            at = self._above[at]

    def make_ready(self, number):
        """The row of this number is ready."""
        at = self._list_of[number]
        self._rows[at].append(number)
        self._count(at, 1)

    def take(self, at):
        """The number of the row that comes next where the one ahead stands in a list."""
        at = self._into(self._nearest(at))
        number = self._rows[at].pop()
        self._count(at, -1)
        return (at, number)

    def _nearest(self, at):
        """The innermost list in which rows are ready; a first one is left for its second one, if that may be."""
        while not self._many[at]:
            above = self._above[at]
            c, b = self._labels[at]
            second = self._numbers.get((above, c, False)) if b else None
            at = above if second is None or not self._many[second] else second
        return at

    def _into(self, at):
        """The list itself, or one in it, where rows are ready."""
        while not self._rows[at]:
            some = [below for below in self._below[at] if self._many[below]]
            # No second list can be left for its first one, so first ones go ahead.
            firsts = [below for below in some if self._labels[below][1]]
            at = firsts[0] if firsts else some[0]
        return at


def gathered_rows(rows):
    """The rows, each behind those that it asks for, else where no if needs to be left for it."""
    waiting = Waiting(rows)
    ready = Ready(rows)
    for number in waiting.first_ones():
        ready.make_ready(number)
    told = []
    at = 0
    while len(told) < len(rows):
        at, number = ready.take(at)
        told.append(rows[number])
        for other in waiting.behind(number):
            ready.make_ready(other)
    return told
