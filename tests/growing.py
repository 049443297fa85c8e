"""Modules that have a face, made by a seed: clocks and kinds are chosen first, then rows that keep them."""

from random import Random

from clockloom.books import Book
from clockloom.faces import face
from tests.making import has_face

NAMES = [a + b for a in "pqrstuvw" for b in "abcdefghij"]
TRUTHFUL = ("both", "either", "not", "below", "same")
MERGES = ("merge", "merge", "when", "then", "flow", "atom")


class Grower:
    """Grows modules and books of them; the same ones by the same seed."""

    def __init__(self, seed, *, words=MERGES + ("arith", "pick"), rows=5, deep=4, calls=0.3):
        self.chance = Random(seed)
        self.words = words
        self.rows = rows
        self.deep = deep
        self.calls = calls

    def module(self, name, below):
        """A module that has a face and may call those of a book."""
        while True:
            made = self._tried(name, below)
            try:
                whole = Book(below.modules() + [made])
            except ValueError:
                continue
            if has_face(whole, name):
                return made

    def book(self, many):
        """A book of modules of which each may call those ahead; all of them have faces."""
        told = Book([])
        for number in range(many):
            told = Book(told.modules() + [self.module("m" + "abcdefghijkl"[number], told)])
        return told

    def _tried(self, name, below):
        pick = self.chance.choice
        self.known = []  # (flow, kind, clock), those that stand ahead
        self.all = []  # those that may be read within a then, too
        for x in "abcd"[:self.chance.randrange(1, 5)]:
            self.known.append((x, pick(("number", "truth")), self._clock()))
        ins = tuple(x for x, _, _ in self.known)
        self.all = list(self.known)
        self.left = iter(NAMES)
        rows = []
        while len(rows) < self.rows:
            callable_ones = below.modules()
            if callable_ones and self.chance.random() < self.calls:
                self._add_call(rows, pick(callable_ones), below)
            else:
                self._add_row(rows)
        outs = self._outs(ins, [x for targets, _ in rows for x in targets])
        return (name, ins, outs, rows)

    def _outs(self, ins, targets):
        clock_of = {x: clock for x, _, clock in self.known}
        outs = []
        left = self.chance.sample(targets, self.chance.randrange(1, min(4, len(targets)) + 1))
        while left:
            x = left.pop()
            if x not in outs:
                outs.append(x)
                left += [c for c, _ in clock_of[x] if c not in ins]
        return tuple(outs)

    def _clock(self):
        """The clock of nothing, or one that stands over a truth."""
        some = [(x, clock) for x, kind, clock in self.known if kind == "truth" and len(clock) < 3]
        if not some or self.chance.random() < 0.4:
            return ()
        x, clock = self.chance.choice(some)
        return clock + ((x, self.chance.random() < 0.6),)

    def _add_row(self, rows):
        x, kind, clock = next(self.left), self.chance.choice(("number", "truth")), self._clock()
        self.all = self.known + [(x, kind, clock)]
        rows.append(((x,), self.expression(kind, clock, self.deep, False)))
        self.known.append((x, kind, clock))

    def _add_call(self, rows, module, below):
        """A row that calls a module, where flows stand ready for all of its ins that must be flows."""
        kinds, clocks, _ = face(below, module[0])
        base = self._clock()
        lots = {kind: self.chance.choice(("number", "truth")) for kind in kinds}
        lots.update({"number": "number", "truth": "truth"})
        asked = {clock[-1][0] for clock in clocks if clock}
        clock_of, flow_of = {}, {}
        left = list(zip(module[1], kinds, clocks))
        while left:
            x, kind, clock = left.pop(0)
            if clock and clock[-1][0] not in flow_of:
                left.append((x, kind, clock))
                continue
            mine = base if not clock else clock_of[clock[-1][0]] + ((flow_of[clock[-1][0]], clock[-1][1]),)
            clock_of[x] = mine
            if x in asked:
                some = [y for y, its_kind, its_clock in self.known if (its_kind, its_clock) == ("truth", mine)]
                if not some:
                    return
                flow_of[x] = self.chance.choice(some)
        targets = [next(self.left) for _ in module[2]]
        flow_of.update(zip(module[2], targets))
        left = list(zip(module[2], kinds[len(module[1]):], clocks[len(module[1]):]))
        made = []
        while left:
            x, kind, clock = left.pop(0)
            if clock and clock[-1][0] not in clock_of:
                left.append((x, kind, clock))
                continue
            over = () if not clock else ((flow_of[clock[-1][0]], clock[-1][1]),)
            clock_of[x] = base if not clock else clock_of[clock[-1][0]] + over
            made.append((flow_of[x], lots[kind], clock_of[x]))
        # Now and then a part reads what the call itself tells: right where no out that it reads wants it.
        self.all = self.known + made
        parts = [("flow", flow_of[x]) if x in flow_of else
                 self.expression(lots[kind], clock_of[x], self.deep - 1, self.chance.random() < 0.2)
                 for x, kind in zip(module[1], kinds)]
        rows.append((tuple(targets), ("call", module[0], parts)))
        self.known += made

    def atom(self, kind, clock, late):
        """An expression without parts."""
        flows = [x for x, its_kind, its_clock in (self.all if late else self.known)
                 if (its_kind, its_clock) == (kind, clock)]
        if flows and self.chance.random() < 0.8:
            return ("flow", self.chance.choice(flows))
        if kind == "number":
            return ("num", self.chance.choice((0, 1, 2, 7, 999999999999)))
        if self.chance.random() < 0.5:
            return ("truth", self.chance.random() < 0.5)
        return ("beats", self.chance.choice(("", "0", "110")), self.chance.choice(("10", "1", "011", "0")))

    def expression(self, kind, clock, deep, late):
        """An expression of this kind and clock; a late one may read what stands behind."""
        if deep <= 1:
            return self.atom(kind, clock, late)
        word = self.chance.choice(self.words)
        if word == "then":
            first = ("num", self.chance.choice((0, 3, 10 ** 12 - 1))) if kind == "number" else (
                "truth", self.chance.random() < 0.5)
            return ("then", first, self.expression(kind, clock, deep - 1, True))
        if word == "when" and clock:
            return ("when", self.expression(kind, clock[:-1], deep - 1, late), *clock[-1])
        if word == "merge" and len(clock) < 4:
            some = [x for x, its_kind, its_clock in (self.all if late else self.known)
                    if (its_kind, its_clock) == ("truth", clock)]
            if some:
                x = self.chance.choice(some)
                parts = [self.expression(kind, clock + ((x, b),), deep - 1, late) for b in (True, False)]
                return ("merge", x, *parts)
        if word == "pick":
            return ("pick", self.expression("truth", clock, deep - 1, late),
                    self.expression(kind, clock, deep - 1, late), self.expression(kind, clock, deep - 1, late))
        if word == "arith":
            return self.operation(kind, clock, deep, late)
        return self.atom(kind, clock, late)

    def operation(self, kind, clock, deep, late):
        """A sum, a comparison and the like."""
        if kind == "number":
            word, its = self.chance.choice(("sum", "less", "times")), "number"
        else:
            word = self.chance.choice(TRUTHFUL)
            its = {"below": "number", "same": self.chance.choice(("number", "truth"))}.get(word, "truth")
        many = 1 if word == "not" else 2
        return (word, *[self.expression(its, clock, deep - 1, late) for _ in range(many)])


def right_beat(chance, ins, measure):
    """What may be fed to ins, tuples (x, kind, conditions), at a beat."""
    told = {}
    left = list(ins)
    while left:
        x, kind, conditions = left.pop(0)
        if any(c not in told for c, _ in conditions):
            left.append((x, kind, conditions))
        elif all(told[c] is b for c, b in conditions):
            told[x] = chance.random() < 0.5 if kind == "truth" else chance.randrange(min(measure, 9))
        else:
            told[x] = None
    return {x: told[x] for x in chance.sample(sorted(told), len(told))}


def doors_of(book, name):
    """Tuples (x, kind, conditions) for the ins of a module; lots are numbers."""
    kinds, clocks, _ = face(book, name)
    kinds = ["truth" if kind == "truth" else "number" for kind in kinds]
    return list(zip(book.module(name)[1], kinds, clocks))


def history(seed, book, name, many):
    """Many beats that may be fed to a module."""
    chance = Random(seed)
    doors = doors_of(book, name)
    return [right_beat(chance, doors, book.measure()) for _ in range(many)]
