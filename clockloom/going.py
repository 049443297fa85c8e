"""Flat modules told beat by beat, each row in its turn."""

from clockloom.deeds import ACTIONS, Spots, first_worth, set_deed


class Plan:
    """A flat module made ready to go on; it stays as it is, what its cells hold is kept outside.

    A cell of a "then" holds the worth that it has when it is there next, that of a "beats" how
    often it was there.
    """

    def __init__(self, flat, measure):
        ins, outs, rows = flat
        spots = Spots(measure)
        self._ins = [(x, spots.flow(x)) for x, _, _ in ins]
        self._outs = [(out, spots.flow(x)) for out, x in outs]
        self.cell_names = [x for x, deed, _ in rows if deed[0] in ("then", "beats")]
        self.cell_begins = tuple([
            first_worth(deed[1], measure) if deed[0] == "then" else 0
            for _, deed, _ in rows if deed[0] in ("then", "beats")
        ])
        self._cells = [spots.cell(x) for x in self.cell_names]
        self._rows = [self._ready(spots, row) for row in rows]
        self._keeps = self._ready_cells(spots, rows)
        self._spots = spots

    def _ready(self, spots, row):
        x, deed, conditions = row
        doing = set_deed(x, deed)
        test, truth = None, None
        if conditions:
            # The last condition's flow is there only where all those ahead of it hold.
            test, truth = spots.flow(conditions[-1][0]), conditions[-1][1]
        return (test, truth, ACTIONS[doing[0]], spots.of_deed(x, doing, deed))

    def _ready_cells(self, spots, rows):
        """For each cell the numbers of its flow and of the atom that it keeps, None of a "beats"."""
        told = []
        for x, deed, _ in rows:
            if deed[0] in ("then", "beats"):
                told.append((spots.flow(x), spots.atom(deed[2]) if deed[0] == "then" else None))
        return told

    def spot_of(self, x):
        """The number at which the worth of a flow stands in what beat tells."""
        return self._spots.flow(x)

    def beat(self, cells, handed):
        """All worths at a beat, of ins that are right, and what the cells hold behind it."""
        worths = self._spots.worths(self._cells, cells, self._ins, handed)
        for test, truth, action, spots in self._rows:
            if test is None or worths[test] == truth:
                action(worths, spots)
        return (worths, self.cells_behind(worths, cells))

    def worths_ahead(self, cells):
        """All worths ahead of a beat of which no in is handed in and no row is done."""
        return self._spots.worths(self._cells, cells, [], {})

    def do_rows(self, worths, numbers):
        """Does some rows, by their numbers, of a beat all of whose worths that they ask for are there."""
        for number in numbers:
            test, truth, action, spots = self._rows[number]
            if test is None or worths[test] == truth:
                action(worths, spots)

    def cells_behind(self, worths, cells):
        """What the cells hold behind a beat all of whose rows are done."""
        held_next = list(cells)
        for number, (spot, kept) in enumerate(self._keeps):
            if worths[spot] is not None:
                held_next[number] = cells[number] + 1 if kept is None else worths[kept]
        return tuple(held_next)

    def told_outs(self, worths):
        """A dict of the outs, in order, of what beat tells."""
        return {out: worths[spot] for out, spot in self._outs}
