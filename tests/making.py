"""What several tests need: things of any kind, books from texts, modules made by a seed."""

from random import Random

from clockloom.books import Book
from clockloom.errors import NoFace
from clockloom.faces import face
from clockloom.texts import read_modules

ANYTHING = (
    None, True, False, 0, 1, -1, 10 ** 29, "", "a", "01", " ~\n", (), [], (0,), [0], ("", "1", "0"),
    ["", "1"], ("1",), (None, None), ("", ""), ("x", "1"), ((), ()), ("inner",), ("ring", ["a"]),
    [[[[[[[[[[[[[[[[]]]]]]]]]]]]]]]],
)

ARITHMETIC = ("sum", "less", "times")
PAIRS = ARITHMETIC + ("below", "same", "both", "either")

# Words for a Maker of modules many of which have clocks.
CLOCKED = (
    ("when", "merge", "then"), ("when", "when", "merge", "same", "pick", "then"),
    ("when", "merge", "then", "sum", "below"), PAIRS + ("not", "pick", "then", "when", "merge"),
)

# x is there where c is true, y where it isn't.
SPLIT = "MODULE s (a, c) OUT (x, y)\nx = (a WHEN c)\ny = (a UNLESS c)"


def book_of(*texts):
    """A book of the modules that texts write."""
    return Book(read_modules("\n\n".join(texts)))


def twelve_modules():
    """A book of twelve modules of which each calls the one ahead twice; all have the face of the first."""
    texts = ["MODULE ma (a, c) OUT (x, y)\nx = (a WHEN c)\ny = (a UNLESS c)"]
    for name, below in zip("bcdefghijkl", "abcdefghijk"):
        texts.append(f"MODULE m{name} (a, c) OUT (x, y)\nx, z = m{below}(a, c)\nv, y = m{below}(a, c)")
    return book_of(*texts)


class Maker:
    """Makes modules; the same ones by the same seed."""

    def __init__(self, seed, *, words=PAIRS + ("not", "pick", "then", "when", "merge"), plain=8):
        self.chance = Random(seed)
        self.words = words
        self.plain = plain

    def atom(self, flows):
        """An expression without parts."""
        turn = self.chance.randrange(self.plain)
        if turn == 0:
            return ("num", self.chance.choice((0, 1, 7, 999999999999)))
        if turn == 1:
            return ("truth", self.chance.random() < 0.5)
        if turn == 2:
            return ("beats", self.chance.choice(("", "01", "1" * 60)), self.chance.choice(("1", "10")))
        return ("flow", self.chance.choice(flows))

    def expression(self, flows, deep):
        """An expression of some depth."""
        if deep <= 1 or self.chance.random() < 0.3:
            return self.atom(flows)
        word = self.chance.choice(self.words)
        if word in PAIRS:
            return (word, self.expression(flows, deep - 1), self.expression(flows, deep - 1))
        if word == "not":
            return (word, self.expression(flows, deep - 1))
        if word == "pick":
            return (word,) + tuple(self.expression(flows, deep - 1) for _ in range(3))
        if word == "then":
            first = self.chance.choice((("num", 3), ("truth", True), ("truth", False)))
            return (word, first, self.expression(flows, deep - 1))
        x = self.chance.choice(flows)
        if word == "when":
            return (word, self.expression(flows, deep - 1), x, self.chance.random() < 0.5)
        return (word, x, self.expression(flows, deep - 1), self.expression(flows, deep - 1))

    def module(self, name, below=(), *, rows=4, deep=3):
        """A module that may call those below."""
        ins = tuple("abc"[:self.chance.randrange(4)])
        kinds = [self.chance.choice(list(below) + [None]) for _ in range(rows)]
        letters = iter("defghijklmnopqrstuvwxyz")
        targets = [tuple(next(letters) for _ in (m[2] if m else "x")) for m in kinds]
        flows = ins + tuple(x for some in targets for x in some)
        made = []
        for some, m in zip(targets, kinds):
            if m is None:
                made.append((some, self.expression(flows, deep)))
            else:
                made.append((some, ("call", m[0], [self.expression(flows, deep - 1) for _ in m[1]])))
        told = [x for some in targets for x in some]
        outs = tuple(self.chance.sample(told, self.chance.randrange(1, min(4, len(told)) + 1)))
        return (name, ins, outs, made)

    def modules(self, many, **more):
        """Modules of which each may call those ahead."""
        told = []
        for number in range(many):
            told.append(self.module("m" + "abcdefgh"[number], told, **more))
        return told

    def book(self, many, **more):
        """A book of modules of which each may call those ahead, and all but the last one have a face."""
        told = []
        while len(told) < many:
            told.append(self.module("m" + "abcdefgh"[len(told)], told, **more))
            if len(told) < many and not has_face(Book(told), told[-1][0]):
                told.pop()
        return Book(told)


def has_face(book, name):
    """Whether a module has a face."""
    try:
        face(book, name)
    except NoFace:
        return False
    return True
