"""Machines: loops that go, beat by beat."""

from clockloom.books import MEASURE
from clockloom.deeds import ACTIONS, Spots, go_on, move
from clockloom.errors import NoLoop
from clockloom.feeding import check_beat
from clockloom.loops import loop_judged


class Code:
    """A right loop made ready to go, a row of deeds and jumps; it stays as it is.

    Each is a tuple (action, spots, jump). Where there is no action, spots is the number of the
    truth of an if, whose second list begins at jump, or None where one always goes on at jump.
    """

    def __init__(self, flat, loop, measure):
        ins, outs, rows = flat
        cells, steps = loop
        spots = Spots(measure)
        self._deeds = {x: deed for x, deed, _ in rows}
        self._spots = spots
        self._ins = [(x, spots.flow(x)) for x, _, _ in ins]
        self._outs = [(out, spots.flow(x)) for out, x in outs]
        self.cell_names = [x for x, _ in cells]
        self._cells = [spots.cell(x) for x in self.cell_names]
        self._rows = []
        self._write(steps)

    def _write(self, steps):
        """Writes all steps; what is left stands in a list, as ifs may lie deep in one another."""
        left = [("steps", steps, 0)]
        while left:
            word, thing, at = left.pop()
            if word == "else":
                # The first list ends with a jump over the second one.
                self._rows[at] = (None, self._rows[at][1], len(self._rows) + 1)
                left.append(("end", None, len(self._rows)))
                left.append(("steps", thing, 0))
                self._rows.append((None, None, None))
            elif word == "end":
                self._rows[at] = (None, None, len(self._rows))
            elif at < len(thing):
                left.append(("steps", thing, at + 1))
                step = thing[at]
                if step[0] == "if":
                    left.append(("else", step[3], len(self._rows)))
                    left.append(("steps", step[2], 0))
                self._rows.append(self._ready(step))

    def _ready(self, step):
        word, x = step[0], step[1]
        if word == "if":
            return (None, self._spots.flow(x), None)
        if word == "go":
            return (go_on, (self._spots.cell(x), self._spots.word(self._deeds[x])), None)
        if word == "keep":
            return (move, (self._spots.cell(x), self._spots.atom(step[2])), None)
        return (ACTIONS[step[2][0]], self._spots.of_deed(x, step[2], self._deeds[x]), None)

    def beat(self, held, handed):
        """What the outs are, what the cells hold behind it, and how many steps were done."""
        worths = self._spots.worths(self._cells, held, self._ins, handed)
        rows = self._rows
        at = 0
        done = 0
        while at < len(rows):
            action, spots, jump = rows[at]
            at += 1
            if action is not None:
                action(worths, spots)
                done += 1
            elif spots is None:
                at = jump
            else:
                done += 1
                if not worths[spots]:
                    at = jump
        outs = {out: worths[spot] for out, spot in self._outs}
        return (outs, [worths[spot] for spot in self._cells], done)


class Machine:
    """A loop that is fed beat by beat."""

    def __init__(self, flat, loop, *, measure=MEASURE):
        wrong = loop_judged(flat, loop, measure=measure)
        if wrong is not None:
            raise NoLoop(wrong)
        self._code = Code(flat, loop, measure)
        self._ins = list(flat[0])
        self._measure = measure
        self._held = [k for _, k in loop[0]]
        self._done = 0
        self._made = 0

    def feed(self, ins):
        """Does the steps for a beat and tells a dict of the outs."""
        check_beat(self._ins, ins, self._measure)
        outs, self._held, self._done = self._code.beat(self._held, ins)
        self._made += 1
        return outs

    def done(self):
        """How many steps were done in the last beat, ifs too."""
        return self._done

    def cells(self):
        """A tuple (x, what it holds) for each cell."""
        return [(x, worth) for x, worth in zip(self._code.cell_names, self._held)]

    def copy(self):
        """Another Machine that stands as this one."""
        # An empty one is made, so that the loop need not be judged and made ready again.
        told = Machine(([], [], []), ([], []))
        told._code = self._code
        told._ins = self._ins
        told._measure = self._measure
        told._held = self._held
        told._done = self._done
        told._made = self._made
        return told

    def __len__(self):
        return len(range(self._made))
