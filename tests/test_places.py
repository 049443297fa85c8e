"""A module of sixty rows nested as deep as they may be, asked at each of its places (8, 9, 11, 12)."""

import unittest
from random import Random

from clockloom.errors import NoModule
from clockloom.texts import module_text, read_module
from clockloom.trees import e_at, flows, module_wrong, places, with_e

# Of each word its tuple and its text, the parts left open.
WORDS = (
    (lambda e, f: ("sum", e, f), "({} + {})"), (lambda e: ("not", e), "(NOT {})"), (lambda e, f: ("less", e, f), "({} - {})"),
    (lambda e: ("then", ("num", 5), e), "(5 THEN {})"), (lambda d, e, f: ("pick", d, e, f), "(IF {} THEN {} ELSE {})"),
    (lambda e: ("when", e, "a", True), "({} WHEN a)"), (lambda e, f: ("times", e, f), "({} * {})"),
    (lambda e, f: ("merge", "xb", e, f), "(MERGE xb {} {})"), (lambda e: ("when", e, "b", False), "({} UNLESS b)"),
    (lambda e, f: ("below", e, f), "({} < {})"), (lambda e: ("then", ("truth", False), e), "(FALSE THEN {})"),
    (lambda e, f: ("same", e, f), "({} = {})"), (lambda e, f: ("both", e, f), "({} AND {})"),
    (lambda e, f: ("either", e, f), "({} OR {})"),
)
ATOMS = ((("flow", "a"), "a"), (("num", 40), "40"), (("truth", True), "TRUE"), (("beats", "0", "11"), "(BEATS 0(11))"),
         (("flow", "xa"), "xa"), (("truth", False), "FALSE"))


class Node:
    """An expression put together with its text; a shape is a Node's word and parts, or an atom's number."""

    def __init__(self, form, text, parts):
        self.form, self.text, self.parts = form, text, parts

    def built(self):
        """The expression and its text."""
        made = [part.built() for part in self.parts]
        return self.form(*[e for e, _ in made]), self.text.format(*[text for _, text in made])

    def paths(self):
        """Each path in it and the Node there, itself first."""
        told = [((), self)]
        for i, part in enumerate(self.parts):
            told += [((i,) + path, node) for path, node in part.paths()]
        return told

    def with_node(self, path, node):
        """It with another Node at the end of a path."""
        if not path:
            return node
        parts = list(self.parts)
        parts[path[0]] = parts[path[0]].with_node(path[1:], node)
        return Node(self.form, self.text, parts)


def atom(number):
    """An atom as a Node."""
    e, text = ATOMS[number % len(ATOMS)]
    return Node(lambda: e, text, [])


def nested(number, deep):
    """A Node that is so deep, its words by a number."""
    if deep == 1:
        return atom(number)
    form, text = WORDS[number % len(WORDS)]
    many = text.count("{}")
    parts = [atom(number + i) for i in range(many)]
    parts[number % many] = nested(number * 5 + 1, deep - 1)
    return Node(form, text, parts)


def call(*parts):
    """A call as a Node."""
    return Node(lambda *es: ("call", "q", list(es)), "q(" + ", ".join(["{}"] * len(parts)) + ")", list(parts))


NAMES = ["x" + one + other for one in ("", "a", "b") for other in "abcdefghijklmnopqrstuvwxyz"][:60]
ROWS = [nested(k, 8) for k in range(9)] + [call(nested(3, 7), atom(0))] + [atom(k) for k in range(50)]


def whole(rows):
    """The module of some rows, and its text."""
    made = [row.built() for row in rows]
    text = "MODULE m (a, b) OUT (xa, xb)\n" + "\n".join(f"{x} = {text}" for x, (_, text) in zip(NAMES, made))
    return ("m", ("a", "b"), ("xa", "xb"), [((x,), e) for x, (e, _) in zip(NAMES, made)]), text


def spots(rows):
    """The places of some rows, each with its Node."""
    return [((k, path), node) for k, row in enumerate(rows) for path, node in row.paths()]


class AtEachPlace(unittest.TestCase):
    def setUp(self):
        self.module, self.text = whole(ROWS)
        self.spots = spots(ROWS)

    def refused(self, place, thing, told):
        with self.assertRaises(NoModule) as caught:
            with_e(self.module, place, thing)
        self.assertEqual(caught.exception.wrong, told, (place, thing))

    def test_the_module_itself(self):
        self.assertIsNone(module_wrong(self.module))
        self.assertEqual((len(ROWS), max(len(path) for (_, path), _ in self.spots)), (60, 7))
        self.assertLessEqual(len(self.spots), 200 - 7)
        self.assertEqual(places(self.module), [place for place, _ in self.spots])
        self.assertEqual(flows(self.module), ["a", "b"] + NAMES)
        self.assertEqual(module_text(self.module), self.text)
        self.assertEqual(repr(read_module(self.text)), repr(self.module))

    def test_what_is_there(self):
        for place, node in self.spots:
            e, _ = node.built()
            self.assertEqual(repr(e_at(self.module, place)), repr(e))
            told = with_e(self.module, place, e)
            self.assertEqual(repr(told), repr(self.module))
            for row in told[3]:
                if row[1][0] == "call":
                    row[1][2].clear()
            told[3].clear()
        self.assertEqual(whole(ROWS)[0], self.module)

    def test_another_one(self):
        for number, ((k, path), _) in enumerate(self.spots):
            for node in (atom(number), nested(number, min(3, 8 - len(path)))):
                rows = list(ROWS)
                rows[k] = ROWS[k].with_node(path, node)
                told = with_e(self.module, (k, path), node.built()[0])
                module, text = whole(rows)
                self.assertEqual(repr(told), repr(module))
                self.assertEqual(places(told), [place for place, _ in spots(rows)])
                self.assertEqual(module_text(told), text)
                self.assertEqual(read_module(text), module)
        self.assertEqual(whole(ROWS)[0], self.module)

    def test_one_that_does_not_fit(self):
        for place, _ in self.spots:
            k, path = place
            for thing, told in (
                (5, ("place", k, path)), (None, ("place", k, path)), (("num", True), ("place", k, path)),
                (("num", -1), ("place", k, path)), (["flow", "a"], ("place", k, path)), (("flow", ["a"]), ("place", k, path)),
                (("sum", ("flow", "zz"), 5), ("place", k, path + (1,))),
                (("flow", "zz"), ("flow", k, path)), (("merge", "zz", ("num", 1), ("num", 2)), ("flow", k, path)),
                (("when", ("flow", "zz"), "yy", True), ("flow", k, path)),
            ):
                if len(path) == 7 and told[0] == "flow" and len(thing) > 2:
                    told = ("size",)
                self.refused(place, thing, told)
            if path:
                self.refused(place, ("call", "q", []), ("call", k, path))
                self.refused(place, ("call", "q", [0]), ("place", k, path + (0,)))
                self.refused(place, ("not", ("call", "q", [])), ("call", k, path + (0,)) if len(path) < 7 else ("size",))
            if len(path) < 7:
                self.assertIsNone(module_wrong(with_e(self.module, place, ("not", ("num", 1)))))
            deep = ("num", 1)
            for _ in range(8 - len(path)):
                deep = ("not", deep)
            self.refused(place, deep, ("size",))

    def test_several_things_wrong_at_once(self):
        found = {}
        chance = Random(7)
        for place, _ in self.spots * 3:
            thing = wrong_one(chance, chance.randrange(1, 5))
            rows = list(self.module[3])
            rows[place[0]] = (rows[place[0]][0], put(rows[place[0]][1], place[1], thing))
            told = module_wrong(self.module[:3] + (rows,))
            found[told and told[0]] = True
            if told is None:
                self.assertEqual(with_e(self.module, place, thing), self.module[:3] + (rows,))
            else:
                self.refused(place, thing, told)
        self.assertEqual(set(found), {None, "place", "size", "call", "flow"})

    def test_one_that_makes_it_too_large(self):
        left = 200 - len(self.spots)
        for (k, path), node in self.spots:
            own = len(node.paths())
            for many in (left + own, left + own + 1):
                e = wide(many, 8 - len(path))
                if e is not None:
                    if many == left + own:
                        self.assertEqual(len(places(with_e(self.module, (k, path), e))), 200)
                    else:
                        self.refused((k, path), e, ("size",))


def wide(many, deep):
    """An expression of so many expressions, at most so deep; None where there is none such."""
    if many == 1:
        return ("num", 1)
    if many < 1 or deep <= 1:
        return None
    if many == 2:
        return ("not", ("num", 1))
    half = (many - 1) // 2
    parts = (wide(half, deep - 1), wide(many - 1 - half, deep - 1))
    return None if None in parts else ("both",) + parts


def wrong_one(chance, deep):
    """An expression in which much may be wrong."""
    if deep == 1 or chance.random() < 0.2:
        return chance.choice((("num", 1), ("flow", "a"), ("flow", "xb"), ("flow", "zz"), ("call", "q", []), ("num", -1)))
    word = chance.choice(("not", "sum", "when", "merge", "pick", "wide") + ("call",) * (chance.random() < 0.3))
    some = [wrong_one(chance, deep - 1) for _ in range(3)]
    return {"not": ("not", some[0]), "sum": ("sum", *some[:2]), "when": ("when", some[0], chance.choice(("a", "zz")), True),
            "merge": ("merge", "b", *some[:2]), "pick": ("pick", *some), "call": ("call", "q", some),
            "wide": ("both", some[0], wide(31, 5))}[word]


def put(e, path, thing):
    """The expression with a thing at the end of a path."""
    if not path:
        return thing
    if e[0] == "call":
        return e[:2] + ([put(part, path[1:], thing) if i == path[0] else part for i, part in enumerate(e[2])],)
    spots = [spot for spot in range(1, len(e)) if isinstance(e[spot], tuple) and (e[0], spot) != ("then", 1)]
    return tuple(put(part, path[1:], thing) if spot == spots[path[0]] else part for spot, part in enumerate(e))


if __name__ == "__main__":
    unittest.main()
