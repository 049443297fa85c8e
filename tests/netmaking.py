"""Nets and drives made by a seed."""

from random import Random

from clockloom.books import Book
from clockloom.texts import read_modules
from tests.making import has_face

LETTERS = "abcdefghijklmnop"


class Knotter:
    """Makes books of modules whose doors have words, nets of them and drives; the same ones by the same seed."""

    def __init__(self, seed, *, signs=4, measure=1000):
        self.chance = Random(seed)
        self.signs = signs
        self.measure = measure

    def text(self, least, most):
        """Signs 0 and 1."""
        return "".join(self.chance.choice("01") for _ in range(self.chance.randrange(least, most + 1)))

    def word(self, *, ones=True):
        """A word; one that has ones without end, where that is asked."""
        head, again = self.text(0, self.signs), self.text(1, self.signs)
        return (head, again + "1" if ones and "1" not in again else again)

    def within(self, text, clock):
        """The text of an expression led to a clock."""
        for c, b in clock:
            text = f"({text} {'WHEN' if b else 'UNLESS'} {c})"
        return text

    def module(self, name):
        """The text of a module: beats one over the other, and outs over them that go by what was taken."""
        chance = self.chance
        ins = "abc"[:chance.randrange(4)]
        rows, outs, clocks = [], [], [()]
        for number in range(chance.randrange(4)):
            clock = chance.choice(clocks)
            x = "p" + LETTERS[number]
            own = "(BEATS {}({}))".format(*self.word())
            if clock:
                # A beats flow that another row makes be there by this clock.
                rows.append(f"z{x} = ({x} AND {self.within('TRUE', clock)})")
            if chance.random() < 0.3:
                rows.append(f"r{x} = {own}")
                own = chance.choice((f"(NOT r{x})", f"r{x}"))
            rows.append(f"{x} = {own}")
            outs.append(x)
            clocks.append(clock + ((x, chance.random() < 0.5),))
        for number in range(chance.randrange(1, 4)):
            x, clock = "x" + LETTERS[number], chance.choice(clocks)
            own = chance.choice(list(ins) + [f"(3 THEN ({ins[0] if ins else 1} + s))", "s"])
            own = self.within(own, clock)
            rows.append(f"{x} = {own}")
            outs.append(x)
        rows.append("s = (0 THEN (s + 1))")
        chance.shuffle(outs)
        return f"MODULE {name} ({', '.join(ins)}) OUT ({', '.join(outs)})\n" + "\n".join(rows)

    def book(self, many):
        """A book of such modules, all of which have a face."""
        told = []
        while len(told) < many:
            more = read_modules(self.module("m" + LETTERS[len(told)]))
            if has_face(Book(more), more[0][0]):
                told += more
        return Book(told, measure=self.measure)

    def room(self, first):
        """A room for a lane, or None."""
        if self.chance.random() < 0.2:
            return None
        return max(1, len(first)) + self.chance.choice((0, 0, 1, 2, 5))

    def net(self, book, many, *, rooms=False, full=0.8):
        """A net; right but for kinds that clash, and with rooms for all lanes where that is asked."""
        chance = self.chance
        instances = tuple(("t" + LETTERS[number], chance.choice(book.modules())[0]) for number in range(many))
        outs = [(title, out) for title, name in instances for out in book.module(name)[2]]
        ins = [(title, x) for title, name in instances for x in book.module(name)[1]]
        lanes = []
        for taker in chance.sample(ins, len(ins))[:16]:
            if chance.random() < full:
                first = tuple(chance.randrange(9) for _ in range(chance.choice((0, 0, 1, 2, 3))))
                room = self.room(first)
                lanes.append((*chance.choice(outs), *taker, first, len(first) + 1 if room is None and rooms else room))
        return (instances, tuple(lanes))

    def drive(self, net, *, ones=True):
        """A drive of a net's tuple."""
        return {title: self.word(ones=ones) for title, _ in net[0]}
