"""Callers: modules that call one so that two of its outs, put as one, would make a ring."""

from clockloom.books import MOST_MODULES, Book, book_wrong, called_first, know_as
from clockloom.clockfacts import Seen
from clockloom.errors import NoFlow, TooLong
from clockloom.facing import faced_in, fill_seen, seen_in
from clockloom.shapes import calls_of
from clockloom.things import SMALL


def _checked(book, name, one, other):
    """What is Seen of a module, refused as a caller for two of its outs is."""
    seen = faced_in(book, name)[name]
    for x in (one, other):
        if x not in seen.outs:
            raise NoFlow(x)
    if len(book) >= MOST_MODULES:
        raise TooLong("the book has as many modules as it may have")
    return seen


class Making:
    """A caller in the making; lots are numbers in it, and no in but one hangs on what is called."""

    def __init__(self, seen):
        doors = seen.ins + seen.outs
        self.kind_of = {x: "truth" if kind == "truth" else "number" for x, kind in zip(doors, seen.face[0])}
        self.clock_of = {x: clock for x, clock in zip(doors, seen.face[1])}
        self.flow_of = {x: "out" + SMALL[number] for number, x in enumerate(seen.outs)}
        self.rows = []

    def add_row(self, e):
        """Makes a row, and tells its target."""
        x = "x" + SMALL[len(self.rows) // 26] + SMALL[len(self.rows) % 26]
        self.rows.append(((x,), e))
        return x

    def always(self, kind):
        """An expression of a kind that is there whenever it need be."""
        return ("truth", True) if kind == "truth" else ("num", 0)

    def to_base(self, giver):
        """A flow that is always there and wants an out, of its kind."""
        x = self.flow_of[giver]
        for c, b in self.clock_of[giver][::-1]:
            parts = [("flow", x), self.always(self.kind_of[giver])]
            if not b:
                parts.reverse()
            x = self.add_row(("merge", self.flow_of[c], parts[0], parts[1]))
        return x

    def turned(self, x, kind, wanted):
        """A flow that wants a flow of a kind and has the wanted one."""
        if kind == wanted:
            return x
        if wanted == "truth":
            return self.add_row(("below", ("flow", x), ("num", 1)))
        return self.add_row(("pick", ("flow", x), ("num", 0), ("num", 1)))

    def lead(self, giver, taker):
        """Makes the flow that stands for an in and wants an out."""
        x = self.turned(self.to_base(giver), self.kind_of[giver], self.kind_of[taker])
        for c, b in self.clock_of[taker]:
            x = self.add_row(("when", ("flow", x), self.flow_of[c], b))
        self.flow_of[taker] = x


def _made(book, seen, giver, taker):
    """A caller that leads an out to an in that it doesn't want."""
    making = Making(seen)
    for x in seen.ins:
        if x != taker:
            making.flow_of[x] = making.add_row(making.always(making.kind_of[x]))
    making.lead(giver, taker)
    out = making.add_row(("num", 0))
    targets = tuple([making.flow_of[x] for x in seen.outs])
    call = ("call", seen.module[0], [("flow", making.flow_of[x]) for x in seen.ins])
    names = ["caller" + sign for sign in SMALL if not book.has("caller" + sign)]
    return (names[0], (), (out,), [*making.rows, (targets, call)])


def caller_for(book, name, one, other):
    """A caller that would have a ring if two outs were put as one; None where they are of one part."""
    seen = _checked(book, name, one, other)
    wants = {x: ins for x, ins in zip(seen.outs, seen.face[2])}
    for giver, beside in ((other, one), (one, other)):
        for taker in wants[beside]:
            if taker not in wants[giver]:
                return _made(book, seen, giver, taker)
    return None


def _as_one(seen, one, other):
    """What is Seen of a module, with two of its outs put as one."""
    kinds, clocks, wants = seen.face
    both = [ins for out, ins in zip(seen.outs, wants) if out in (one, other)]
    wanted = tuple([x for x in seen.ins if [ins for ins in both if x in ins]])
    told = Seen(seen.module)
    told.door_kinds = seen.door_kinds
    told.face = (kinds, clocks, tuple([
        wanted if out in (one, other) else ins for out, ins in zip(seen.outs, wants)
    ]))
    return told


def _has_order_as_one(book, name, one, other, caller):
    """Whether a module of a book has an order where two outs of another one are put as one."""
    modules = called_first(book, caller)
    known = {name: _as_one(book.seen[name], one, other)}
    # All that stand on the module by calls are looked at anew, by the face that is changed.
    anew = {name: True}
    for module in modules:
        if [call for _, _, call in calls_of(module) if call[1] in anew]:
            anew[module[0]] = True
        elif module[0] not in anew:
            known[module[0]] = book.seen[module[0]]
    fill_seen(known, modules)
    order = known[caller].order
    return order is not None and order[0] == "order"


def caller_judged(book, name, one, other, caller):
    """None where a thing is a caller for two outs that shows them to be of unlike parts."""
    _checked(book, name, one, other)
    modules = [*book.modules(), caller]
    if book_wrong(modules) is not None:
        return ("module",)
    if len([call for _, _, call in calls_of(caller) if call[1] == name]) != 1:
        return ("call",)
    wide = Book(modules, measure=book.measure())
    know_as(wide, book)
    if seen_in(wide, caller[0])[caller[0]].face is None:
        return ("face",)
    if _has_order_as_one(wide, name, one, other, caller[0]):
        return ("ring",)
    return None
