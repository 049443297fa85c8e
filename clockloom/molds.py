"""Molds: what a module makes flat, as far as it is the same by whatever way the module is called.

Names stand in a mold by numbers: first those of the ins, which a caller tells, then one for each
tail, a text that stands behind the flat names' beginning for the way. What deeds are made of
stands by numbers, too: all names, then the flow of each name, then what is ever the same.
"""

from clockloom.books import called_first
from clockloom.shapes import NAME_SPOTS, PART_SPOTS, calls_of, parts_of

PLAIN = ("num", "truth", "flow")


def _add_made(told, path, e):
    """Adds a tuple (path, e) for an expression, behind those for the expressions in it that make a row."""
    for i, part in enumerate(parts_of(e)):
        if part[0] not in PLAIN:
            _add_made(told, (*path, i), part)
    told.append((path, e))


def _made_in(row):
    """A tuple (path, e) for each expression of a row that makes a row, each behind its parts."""
    told = []
    if row[1][0] != "call":
        _add_made(told, (), row[1])
        return told
    for i, part in enumerate(row[1][2]):
        if part[0] != "flow":
            _add_made(told, (i,), part)
    return told


def _many_made(e):
    """How many rows an expression makes with all that is in it."""
    return 1 + sum([_many_made(part) for part in parts_of(e) if part[0] not in PLAIN])


def _many_made_in(row):
    """How many rows a row makes, but for those of what it calls."""
    if row[1][0] != "call":
        return _many_made(row[1])
    return sum([_many_made(part) for part in row[1][2] if part[0] != "flow"])


class Call:
    """A row that is a call: the called module's name, the names of its ins, and its clock, by their numbers."""

    def __init__(self, name, tail, ins, clock):
        self.name = name
        self.tail = tail
        self.ins = ins
        self.clock = clock


class Mold:
    """A module's mold; molds has those of the modules that it calls."""

    def __init__(self, seen, molds):
        self.module = seen.module
        self.number_of = {x: number for number, x in enumerate(seen.ins)}
        self.tails = []
        self._number_at = {}
        self._conditions = seen.conditions
        self._name_flows(molds)
        made = [self._name_made(molds, k, row) for k, row in enumerate(self.module[3])]
        self._many_names = len(seen.ins) + len(self.tails)
        self.constants = []
        self._constant_at = {}
        self.clocks = [()]
        self._clock_at = {(): 0}
        # For each row what it makes, tuples (name, deed, clock, names asked for), and its Call or None.
        self.rows = []
        # For each row a tuple (place, name, e) for each "then" and "beats" in it, in the order of places.
        self.held = [self._held_in(k, some) for k, some in enumerate(made)]
        for k, row in enumerate(self.module[3]):
            self.rows.append(([self._made_row(k, path, e) for path, e in made[k]], self._call(k, row)))

    def _new_name(self, tail):
        self.tails.append(tail)
        return len(self.module[1]) + len(self.tails) - 1

    def _name_flows(self, molds):
        for k, (targets, e) in enumerate(self.module[3]):
            for i, x in enumerate(targets):
                # The target of a call has the name of the out for which it stands.
                tail = f"{k}." + molds[e[1]].out_tail(i) if e[0] == "call" else x
                self.number_of[x] = self._new_name(tail)

    def out_tail(self, i):
        """The tail of the i-th out."""
        number = self.number_of[self.module[2][i]]
        return self.tails[number - len(self.module[1])]

    def _name_made(self, molds, k, row):
        """Names what a row makes, and tells it."""
        told = _made_in(row)
        for path, _ in told:
            if not path:
                number = self.number_of[row[0][0]]
            elif row[1][0] == "call" and len(path) == 1:
                number = self._new_name(f"{k}." + molds[row[1][1]].module[1][path[0]])
            else:
                number = self._new_name("-".join([str(i) for i in (k, *path)]))
            self._number_at[(k, path)] = number
        return told

    def _constant(self, thing):
        """The number of a thing that is ever the same."""
        if thing not in self._constant_at:
            self._constant_at[thing] = 2 * self._many_names + len(self.constants)
            self.constants.append(thing)
        return self._constant_at[thing]

    def _clock(self, place):
        """The number of a place's own conditions."""
        own = self._conditions[place]
        if own not in self._clock_at:
            self._clock_at[own] = len(self.clocks)
            self.clocks.append(tuple([(self.number_of[c], b) for c, b in own]))
        return self._clock_at[own]

    def _part_name(self, k, path, part):
        """The number of the name of a part that is no number or truth."""
        return self.number_of[part[1]] if part[0] == "flow" else self._number_at[(k, path)]

    def _made_row(self, k, path, e):
        clock = self._clock((k, path))
        # What is there goes by the last condition, whose flow stands behind those of the others; where
        # there is none, by the last one of the base, whose number is behind those of all names.
        asked = [number for number, _ in self.clocks[clock][-1:]] or [self._many_names]
        if e[0] not in PART_SPOTS and e[0] != "flow":
            return (self._number_at[(k, path)], (self._constant(e),), clock, asked)
        deed = []
        part_spots = PART_SPOTS.get(e[0], ())
        name_spot = NAME_SPOTS.get(e[0])
        for spot, thing in enumerate(e):
            if spot in part_spots:
                deed.append(self._atom(k, (*path, part_spots.index(spot)), thing))
            elif spot == name_spot:
                deed.append(self.number_of[thing])
            else:
                deed.append(self._constant(thing))
        if e[0] != "then":
            asked.extend(self._names_in(deed))
        return (self._number_at[(k, path)], tuple(deed), clock, asked)

    def _atom(self, k, path, part):
        """The number of the atom of a part."""
        if part[0] in ("num", "truth"):
            return self._constant(part)
        return self._many_names + self._part_name(k, path, part)

    def _names_in(self, deed):
        """The numbers of the names in a deed, in atoms too."""
        return [number % self._many_names for number in deed if number < 2 * self._many_names]

    def _call(self, k, row):
        if row[1][0] != "call":
            return None
        ins = []
        for i, part in enumerate(row[1][2]):
            ins.append(self._part_name(k, (i,), part))
        return Call(row[1][1], f"{k}.", ins, self._clock((k, ())))

    def names(self, prefix, ins):
        """All names by a way, of which the beginning and the names of the ins are told."""
        return ins + [prefix + tail for tail in self.tails]

    def _held_in(self, k, made):
        held = {path: e for path, e in made if e[0] in ("then", "beats")}
        return [((k, path), self._number_at[(k, path)], held[path]) for path in sorted(held)]


def many_rows(book, name):
    """How many rows the flat module of a module has; no mold is needed to tell it."""
    many = {}
    for module in called_first(book, name):
        count = sum([_many_made_in(row) for row in module[3]])
        many[module[0]] = count + sum([many[call[1]] for _, _, call in calls_of(module)])
    return many[name]


def molds_of(book, name):
    """The molds of a module that has a face and of all those that it calls, by their names (and of others)."""
    known = book.molds
    if name not in known:
        for module in called_first(book, name):
            if module[0] not in known:
                known[module[0]] = Mold(book.seen[module[0]], known)
    return known
