"""A slow flat module, straight from 24: names by looking up and down, rows by trying each in turn."""

from clockloom.clocks import clocks
from clockloom.faces import face
from tests.oracles import others, plain_parts


class Looked:
    """A book whose modules, and the clocks of whose places, are asked for once."""

    def __init__(self, book):
        self.table = {module[0]: module for module in book.modules()}
        self.clocks = {name: dict(clocks(book, name)[1]) for name in self.table if clocks(book, name)[0] == "clocks"}

    def module(self, name):
        return self.table[name]


def led_to(book, name, way):
    """The module to which a way leads."""
    module = book.module(name)
    for k in way:
        module = book.module(module[3][k][1][1])
    return module


def written(way, tail):
    """A flat name of a way and what stands behind it."""
    return "".join(f"{k}." for k in way) + tail


def name_of(book, name, way, x):
    """The flat name of a flow, seen by a way."""
    module = led_to(book, name, way)
    for k, (targets, e) in enumerate(module[3]):
        if x in targets and e[0] == "call":
            below = way + (k,)
            return name_of(book, name, below, led_to(book, name, below)[2][targets.index(x)])
    if x in module[1] and way:
        part = led_to(book, name, way[:-1])[3][way[-1]][1][2][module[1].index(x)]
        if part[0] == "flow":
            return name_of(book, name, way[:-1], part[1])
    return written(way, x)


def base_of(book, name, way):
    """The conditions of the base to which a way leads."""
    return conditions_of(book, name, way[:-1], (way[-1], ())) if way else ()


def conditions_of(book, name, way, place):
    """The conditions of a place, from the outermost call on."""
    own = book.clocks[led_to(book, name, way)[0]][place][1]
    return base_of(book, name, way) + tuple((name_of(book, name, way, c), b) for c, b in own)


def deed_of(book, name, way, k, path, e):
    """The deed of an expression."""
    def atom(i, part):
        if part[0] in ("num", "truth"):
            return part
        if part[0] == "flow":
            return ("flow", name_of(book, name, way, part[1]))
        return ("flow", written(way, "-".join(str(n) for n in (k,) + path + (i,))))

    def named(x):
        return name_of(book, name, way, x)

    word = e[0]
    if word in ("num", "truth", "beats"):
        return e
    if word == "flow":
        return ("flow", named(e[1]))
    if word == "then":
        return ("then", e[1], atom(0, e[2]))
    if word == "when":
        return ("when", atom(0, e[1]), named(e[2]), e[3])
    if word == "merge":
        return ("merge", named(e[1]), atom(0, e[2]), atom(1, e[3]))
    return (word,) + tuple(atom(i, part) for i, part in enumerate(e[1:]))


def rows_of_e(book, name, way, k, path, e, own_name):
    """The rows of an expression and those in it, itself last, by its own name if it has one."""
    told = []
    for i, part in enumerate(plain_parts(e)):
        told += rows_of_e(book, name, way, k, path + (i,), part, None)
    if own_name or e[0] not in ("num", "truth", "flow"):
        x = own_name or written(way, "-".join(str(n) for n in (k,) + path))
        told.append((x, deed_of(book, name, way, k, path, e), conditions_of(book, name, way, (k, path))))
    return told


def made_rows(book, name, way):
    """The rows that a module makes by a way, in the order in which they are made."""
    told = []
    for k, (targets, e) in enumerate(led_to(book, name, way)[3]):
        if e[0] != "call":
            told += rows_of_e(book, name, way, k, (), e, written(way, targets[0]))
            continue
        ins = book.module(e[1])[1]
        for i, part in enumerate(e[2]):
            own_name = None if part[0] == "flow" else written(way + (k,), ins[i])
            told += rows_of_e(book, name, way, k, (i,), part, own_name)
        told += made_rows(book, name, way + (k,))
    return told


def names_asked(row):
    """The names behind which a row stands."""
    _, deed, conditions = row
    told = [c for c, _ in conditions]
    if deed[0] == "then":
        return told
    told += [part[1] for part in deed[1:] if isinstance(part, tuple) and part[0] == "flow"]
    return told + {"flow": [deed[1]], "merge": [deed[1]], "when": list(deed[2:3])}.get(deed[0], [])


def slow_flat(book, name):
    """The flat module of a module."""
    looked = Looked(book)
    left = made_rows(looked, name, ())
    known = {row[0] for row in left}
    told = set()
    rows = []
    while left:
        ready = (at for at, row in enumerate(left) if all(x in told or x not in known for x in names_asked(row)))
        at = next(ready, None)
        if at is None:
            raise IndexError("the rows that are left ask for one another in a ring")
        row = left.pop(at)
        told.add(row[0])
        rows.append(row)
    module = book.module(name)
    kinds, face_clocks, _ = face(book, name)
    ins = [(x, "truth" if kind == "truth" else "number", clock)
           for x, kind, clock in zip(module[1], kinds, face_clocks)]
    return (ins, [(x, name_of(book, name, (), x)) for x in module[2]], rows)
