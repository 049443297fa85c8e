"""Parts: lots of a module's outs that want the same ins, and modules run part by part."""

from clockloom.errors import NoBeat, NoPart
from clockloom.facing import faced_in
from clockloom.feeding import check_beat
from clockloom.grounds import ground_of
from clockloom.things import is_whole
from clockloom.waiting import asked_by


def parts(book, name):
    """A tuple (outs, ins) for each part of a module."""
    seen = faced_in(book, name)[name]
    outs_of = {}
    for out, ins in zip(seen.outs, seen.face[2]):
        outs_of.setdefault(ins, []).append(out)
    return [(tuple(outs_of[ins]), ins) for ins in outs_of]


class Part:
    """A part made ready: its outs and ins as a flat module tells them, and the numbers of its rows."""

    def __init__(self, ground, asked, outs, ins):
        self.outs = [(out, ground.spot_of[out]) for out in outs]
        self.ins = [door for door in ground.ins if door[0] in ins]
        self.numbers = _numbers_for(ground.rows, asked, [x for out, x in ground.outs if out in outs])


def _numbers_for(rows, asked, names):
    """The numbers of the rows that some flat names ask for, in order; asked has what each row asks for."""
    needed = {x: True for x in names}
    told = []
    for number in range(len(rows) - 1, -1, -1):
        if rows[number][0] in needed:
            told.append(number)
            for x in asked[number]:
                needed[x] = True
    return told[::-1]


def _ready_parts(ground, told):
    asked = [asked_by(row) for row in ground.rows]
    return [Part(ground, asked, outs, ins) for outs, ins in told]


class Parted:
    """A module that is run part by part, beat by beat."""

    def __init__(self, book, name):
        self._ground = ground_of(book, name)
        self._parts = _ready_parts(self._ground, parts(book, name))
        self._begin_beat(self._ground.plan.cell_begins)

    def _begin_beat(self, cells):
        self._cells = cells
        self._worths = self._ground.plan.worths_ahead(cells)
        self._handed = {}
        self._left = [True for _ in self._ground.rows]

    def _take(self, ins, handed):
        """Takes the worths of some ins, or refuses them."""
        check_beat(ins, handed, self._ground.measure)
        for x, _, _ in ins:
            if x in self._handed and self._handed[x] != handed[x]:
                raise NoBeat(x)
        for x, _, _ in ins:
            self._handed[x] = handed[x]
            self._worths[self._ground.spot_of[x]] = handed[x]

    def _do(self, numbers):
        """Does those of some rows that are not yet done at this beat."""
        some = [number for number in numbers if self._left[number]]
        self._ground.plan.do_rows(self._worths, some)
        for number in some:
            self._left[number] = False

    def told(self, k, ins):
        """A dict of the outs of part k at this beat."""
        if not is_whole(k) or not 0 <= k < len(self._parts):
            raise NoPart("there is no part of this number")
        part = self._parts[k]
        self._take(part.ins, ins)
        self._do(part.numbers)
        return {out: self._worths[spot] for out, spot in part.outs}

    def go_on(self, ins):
        """Ends the beat."""
        self._take(self._ground.ins, ins)
        self._do(list(range(len(self._left))))
        self._begin_beat(self._ground.plan.cells_behind(self._worths, self._cells))
