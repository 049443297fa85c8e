"""A slow teller, straight from 21: each worth is looked for where it is asked, from the call above down."""

from clockloom.clocks import clocks
from tests.oracles import others


class SlowRun:
    """A module, and all that it calls, each by its way."""

    def __init__(self, book, name):
        self.book = book
        self.name = name
        self.measure = book.measure()
        self.held = {}
        self.modules = {module[0]: module for module in book.modules()}
        self.clock_of = {x: dict(clocks(book, x)[1]) for x in self.modules}
        self.others = {x: others(module) for x, module in self.modules.items()}
        self.all_ways = self.ways()

    def module(self, way):
        """The module to which a way leads."""
        name = self.name
        for k in way:
            name = self.modules[name][3][k][1][1]
        return self.modules[name]

    def ways(self):
        """All ways, the module's own first."""
        told, left = [], [()]
        while left:
            way = left.pop(0)
            told.append(way)
            left += [way + (k,) for k, row in enumerate(self.module(way)[3]) if row[1][0] == "call"]
        return told

    def there(self, way, place):
        """Whether a place is there at this beat."""
        if way and not self.there(way[:-1], (way[-1], ())):
            return False
        conditions = self.clock_of[self.module(way)[0]][place][1]
        return all(self.flow(way, c) is b for c, b in conditions)

    def flow(self, way, x):
        """The worth of a flow, None where it is not there."""
        if (way, x) not in self.told:
            self.told[(way, x)] = self.looked_for(way, x) if self.there(way, x) else None
        return self.told[(way, x)]

    def looked_for(self, way, x):
        module = self.module(way)
        if x in module[1]:
            if not way:
                return self.fed[x]
            above = self.module(way[:-1])
            return self.e(way[:-1], above[3][way[-1]][1][2][module[1].index(x)], (way[-1], (module[1].index(x),)))
        for k, (targets, e) in enumerate(module[3]):
            if x in targets and e[0] == "call":
                return self.flow(way + (k,), self.module(way + (k,))[2][targets.index(x)])
            if x in targets:
                return self.e(way, e, (k, ()))

    def e(self, way, e, place):
        """The worth of an expression that is there."""
        k, path = place
        word = e[0]

        def part(number, i):
            return self.e(way, e[number], (k, path + (i,)))

        if word == "num":
            return e[1] % self.measure
        if word == "truth":
            return e[1]
        if word == "flow":
            return self.flow(way, e[1])
        if word == "beats":
            count = self.held.get((way, place), 0)
            return (e[1] + e[2] * (count + 1))[count] == "1"
        if word == "then":
            first = e[1][1] if e[1][0] == "truth" else e[1][1] % self.measure
            return self.held.get((way, place), first)
        if word == "pick":
            return part(2, 1) if part(1, 0) else part(3, 2)
        if word == "when":
            return part(1, 0)
        if word == "merge":
            return part(2, 0) if self.flow(way, e[1]) else part(3, 1)
        if word == "not":
            return not part(1, 0)
        one, other = part(1, 0), part(2, 1)
        return {"sum": lambda: (one + other) % self.measure, "less": lambda: (one - other) % self.measure,
                "times": lambda: one * other % self.measure, "below": lambda: one < other,
                "same": lambda: one == other, "both": lambda: one and other,
                "either": lambda: one or other}[word]()

    def feed(self, ins):
        """A dict of the outs, at the next beat."""
        self.fed = ins
        self.told = {}
        held = dict(self.held)
        for way in self.all_ways:
            for place, e, _ in self.others[self.module(way)[0]]:
                if e[0] == "beats" and self.there(way, place):
                    held[(way, place)] = self.held.get((way, place), 0) + 1
                if e[0] == "then" and self.there(way, place):
                    held[(way, place)] = self.e(way, e[2], (place[0], place[1] + (0,)))
        module = self.module(())
        self.flows = [(x, self.flow((), x)) for x in list(module[1]) + [x for some, _ in module[3] for x in some]]
        self.held = held
        return {x: self.flow((), x) for x in module[2]}
