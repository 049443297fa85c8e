"""Kinds (13, 14)."""

import copy
import time
import unittest

from clockloom.errors import NoName
from clockloom.kinds import kinds, kinds_judged
from clockloom.trees import flows, places
from tests.making import ANYTHING, Maker, PAIRS, book_of
from tests.oracles import kind_rules, slow_kinds

WORDS = (
    PAIRS + ("not", "pick", "then", "when", "merge"), ("then", "pick", "same"), ("when", "merge", "then", "same"),
    ("then", "pick", "sum", "below"),
)

LOTS = "MODULE l (a, b, c) OUT (x, y)\nx = (IF c THEN a ELSE a)\ny = (b = b)"
PASS = "MODULE p (a, b, c) OUT (x, y)\nx = (MERGE c a a)\ny = b"
BROKEN = "MODULE w (a) OUT (x)\nx = (a + (NOT a))"


def table_of(book, name):
    told = kinds(book, name)
    assert told[0] == "kinds", told
    return dict(told[1])


class TheWidest(unittest.TestCase):
    def kind_of(self, text, place, kind):
        book = book_of(f"MODULE m (a, b, c) OUT (x)\nx = {text}")
        self.assertEqual(repr(table_of(book, "m")[place]), repr(kind))

    def test_a_whole_table(self):
        book = book_of("MODULE m (a, b) OUT (x)\nx = (IF b THEN a ELSE (a WHEN b))\ny = (1 + 2)\nz = z")
        self.assertEqual(kinds(book, "m"), ("kinds", [
            ("a", 0), ("b", "truth"), ("x", 0), ("y", "number"), ("z", 1), ((0, ()), 0), ((0, (0,)), "truth"),
            ((0, (1,)), 0), ((0, (2,)), 0), ((0, (2, 0)), 0), ((1, ()), "number"), ((1, (0,)), "number"),
            ((1, (1,)), "number"), ((2, ()), 1),
        ]))

    def test_each_word(self):
        for sign in "+-*":
            for place in ("x", (0, ()), (0, (0,)), (0, (1,)), "a", "b"):
                self.kind_of(f"(a {sign} b)", place, "number")
        for word in ("AND", "OR"):
            for place in ("x", (0, ()), (0, (0,)), (0, (1,)), "a", "b"):
                self.kind_of(f"(a {word} b)", place, "truth")
        for place, kind in (("x", "truth"), ((0, ()), "truth"), ("a", "number"), ("b", "number"), ("c", 0)):
            self.kind_of("(a < b)", place, kind)
        for place, kind in (("x", "truth"), ((0, ()), "truth"), ("a", 0), ("b", 0), ("c", 1), ((0, (1,)), 0)):
            self.kind_of("(a = b)", place, kind)
        self.kind_of("(a = 1)", "a", "number")
        for place in ("x", "a", (0, (0,))):
            self.kind_of("(NOT a)", place, "truth")
        for place, kind in (("a", "truth"), ("b", 0), ("c", 0), ("x", 0)):
            self.kind_of("(IF a THEN b ELSE c)", place, kind)
        self.kind_of("(IF a THEN b ELSE 1)", "b", "number")
        self.kind_of("(IF a THEN TRUE ELSE c)", "x", "truth")
        self.kind_of("(1 THEN a)", "a", "number")
        self.kind_of("(FALSE THEN a)", "x", "truth")
        for text in ("(a WHEN b)", "(a UNLESS b)"):
            for place, kind in (("x", 0), ("a", 0), ("b", "truth"), ((0, (0,)), 0)):
                self.kind_of(text, place, kind)
        for place, kind in (("x", 0), ("b", 0), ("c", 0), ("a", "truth")):
            self.kind_of("(MERGE a b c)", place, kind)
        self.kind_of("7", "x", "number")
        self.kind_of("TRUE", "x", "truth")
        self.kind_of("(BEATS 0(1))", "x", "truth")
        self.kind_of("a", "x", 0)

    def test_lots_are_numbered_as_they_come(self):
        book = book_of("MODULE m (a, b, c, d) OUT (x)\nx = 1\ny = (d = b)\nz = (e = e)\ne = c\nf = f\ng = (NOT (f = f))")
        told = kinds(book, "m")[1]
        self.assertEqual([kind for _, kind in told[:10]], [0, 1, 2, 1, "number", "truth", "truth", 2, 3, "truth"])
        # A lot that no flow is of comes behind them all.
        book = book_of("MODULE m (a) OUT (x)\nx = ((BEATS (1)) = TRUE)\ny = y\nz = a")
        self.assertEqual([kind for _, kind in kinds(book, "m")[1][:4]], [0, "truth", 1, 0])

    def test_whole_numbers_are_told(self):
        for _, kind in kinds(book_of(LOTS), "l")[1]:
            self.assertIn(type(kind), (int, str))

    def test_through_called_modules(self):
        book = book_of(PASS, "MODULE m (a, b, c, d) OUT (x, y)\nx, y = p(a, b, c)\nz, v = p((d + 1), FALSE, c)")
        table = table_of(book, "m")
        # The lots of each call are anew: numbers in the one, truths in the other, open in the third.
        self.assertEqual([table[x] for x in "abcdxyzv"], [0, 1, "truth", "number", 0, 1, "number", "truth"])
        self.assertEqual([table[place] for place in ((0, (0,)), (0, (1,)), (0, (2,)))], [0, 1, "truth"])
        self.assertNotIn((0, ()), table)

    def test_ties_of_a_called_module_that_no_out_reads(self):
        book = book_of("MODULE l (a, b) OUT (x)\nx = 1\ny = (a = b)", "MODULE m (c) OUT (z)\nz = l(c, (NOT z))")
        self.assertEqual(kinds(book, "m")[0], "clash")
        book = book_of("MODULE l (a, b) OUT (x)\nx = 1\ny = (a = b)", "MODULE m (c) OUT (z)\nz = l(c, 7)")
        self.assertEqual(table_of(book, "m")["c"], "number")

    def test_through_several_modules(self):
        texts = ["MODULE ma (a) OUT (x)\nx = a"]
        for name, below in zip("bcdefghijkl", "abcdefghijk"):
            texts.append(f"MODULE m{name} (a) OUT (x)\nx = m{below}(y)\ny = m{below}(a)")
        book = book_of(*texts)
        begin = time.monotonic()
        self.assertEqual(kinds(book, "ml")[1][:3], [("a", 0), ("x", 0), ("y", 0)])
        self.assertIsNone(kinds_judged(book, "ml", kinds(book, "ml")))
        self.assertLess(time.monotonic() - begin, 5)

    def test_no_name_goes_ahead(self):
        book = book_of(LOTS)
        for name in ("", "m", "L"):
            for ask in (lambda: kinds(book, name), lambda: kinds_judged(book, name, None)):
                with self.assertRaises(NoName) as caught:
                    ask()
                self.assertEqual(caught.exception.name, name)
        self.assertEqual(kinds(name="l", book=book), kinds(book, "l"))
        self.assertIsNone(kinds_judged(paper=kinds(book, "l"), name="l", book=book))

    def test_what_is_told_is_new(self):
        for book in (book_of(LOTS), book_of(BROKEN.replace(" w ", " l "))):
            held = copy.deepcopy(kinds(book, "l"))
            kinds(book, "l")[1].clear()
            self.assertEqual(kinds(book, "l"), held)

    def test_by_a_slow_way(self):
        found = {}
        for seed in range(100):
            book = Maker(seed, words=WORDS[seed % 4], plain=(8, 20)[seed % 2]).book(3, rows=3, deep=3)
            for module in book.modules():
                told, slow = kinds(book, module[0]), slow_kinds(book, module[0])
                self.assertEqual(told[0], slow[0])
                if told[0] != "clash":
                    self.assertEqual(repr(told), repr(slow))
                self.assertIsNone(kinds_judged(book, module[0], told))
                found[told[0]] = found.get(told[0], 0) + 1
        self.assertGreater(found["kinds"], 100)
        self.assertGreater(found["clash"], 20)


class Clashes(unittest.TestCase):
    def clash(self, *texts):
        """The chain, looked at by the rules as they are written."""
        book = book_of(*texts)
        word, chain = kinds(book, "m")
        self.assertEqual(word, "clash")
        ties, tells = kind_rules(book, "m")
        self.assertIn((chain[0], "number"), tells)
        self.assertIn((chain[-1], "truth"), tells)
        for one, other in zip(chain, chain[1:]):
            self.assertIn((one, other), ties)
        self.assertIsNone(kinds_judged(book, "m", (word, chain)))
        return chain

    def test_one_alone(self):
        self.assertEqual(self.clash("MODULE m (a) OUT (x)\nx = (1 + (a < 2))"), [(0, (1,))])
        self.assertEqual(self.clash("MODULE m (a) OUT (x)\nx = (NOT 1)"), [(0, (0,))])
        self.assertEqual(self.clash("MODULE m (a) OUT (x)\nx = (1 WHEN a)\ny = (a = 3)\nz = (2 UNLESS a)")[-1], "a")

    def test_several(self):
        chain = self.clash("MODULE m (a, b) OUT (x)\nx = 1\ny = x\nz = (IF b THEN y ELSE a)\nv = (NOT a)")
        self.assertEqual((chain[0], chain[-1]), ((0, ()), (3, (0,))))
        self.clash("MODULE m (a) OUT (x)\nx = (TRUE THEN a)\ny = (a + 1)")
        self.clash("MODULE m (a) OUT (x)\nx = (0 THEN (a AND a))")

    def test_through_calls(self):
        self.clash(PASS, "MODULE m (a, c) OUT (x)\nx, y = p(1, a, c)\nz = (NOT x)")
        self.clash("MODULE q (a) OUT (x)\nx = (a + 1)", "MODULE m (c) OUT (x)\nx = q((NOT c))")
        self.clash("MODULE q (a, b) OUT (x)\nx = (a = b)", "MODULE m (c) OUT (x)\nx = q(1, TRUE)")

    def test_inner(self):
        top = "MODULE m (a) OUT (x)\nx = 1\ny = {}(a)\nz = {}(a)\nv = (1 + TRUE)"
        other = BROKEN.replace(" w ", " v ")
        for one, two in ("wv", "vw", "ww"):
            book = book_of(BROKEN, top.format(one, two), other)
            self.assertEqual(kinds(book, "m"), ("inner", one))
        book = book_of("MODULE g (a) OUT (x)\nx = a", BROKEN, top.format("g", "w"))
        self.assertEqual(kinds(book, "m"), ("inner", "w"))
        # Of one that calls one without kinds none are told either.
        book = book_of(BROKEN, "MODULE g (a) OUT (x)\nx = w(a)", "MODULE m (a) OUT (x)\nx = g(a)")
        self.assertEqual(kinds(book, "m"), ("inner", "g"))
        self.assertEqual(kinds(book, "g"), ("inner", "w"))


class Judged(unittest.TestCase):
    BOOK = book_of(
        BROKEN, PASS, LOTS,
        "MODULE m (a, b) OUT (x)\nx = (IF b THEN a ELSE (1 THEN c))\nc, d = p((a + 1), e, b)\ne = (e = e)",
        "MODULE i (a) OUT (x)\nx, y = p(a, a, TRUE)\nz = w(a)",
        "MODULE k (a) OUT (x)\nx = (a + (NOT a))\ny = (a < 1)\nz = (NOT b)\nb = c\nc = 2",
    )

    def judged(self, name, paper, told):
        found = kinds_judged(self.BOOK, name, paper)
        self.assertEqual(repr(found), repr(told), paper)

    def table(self, name="m"):
        return list(kinds(self.BOOK, name)[1])

    def test_papers_that_are_none(self):
        table = self.table()
        for name in ("m", "i", "w"):
            for thing in ANYTHING + (
                ("kinds",), ("kinds", tuple(table)), ["kinds", table], ("kinds", table, None), ("kind", table),
                ("clash", []), ("clash", ()), ("clash", ("a",)), ("clash", None), ("clash", ["q"]), ("clash", ["a", "q"]),
                ("clash", ["a", (0, (9,))]), ("clash", ["a", (9, ())]), ("clash", ["a", [0, ()]]), ("clash", [None]),
                ("clash", ["a", (0, [])]), ("clash", ["a", (False, ())]), ("clash", [["a"]]), ("clash", [("a",)]),
                ("inner", "W"), ("inner", ""), ("inner", None), ("inner", ["w"]), ("inner", "abcdefghi"), ("inner",),
                ("inner", "w", "w"), ("clocks", []), (["kinds"], table), ("kinds", None), ("clash", [1]),
            ):
                self.judged(name, thing, ("paper",))
        # A call has no kind; a truth is no number of a row or part.
        self.judged("m", ("clash", ["a", (1, ())]), ("paper",))
        self.judged("m", ("clash", [(0, (True,))]), ("paper",))
        self.judged("m", ("clash", [(0, (1,))]), ("begin",))

    def test_inner(self):
        self.assertEqual(kinds(self.BOOK, "i"), ("inner", "w"))
        self.judged("i", ("inner", "w"), None)
        for name in ("p", "i", "q", "m", "abcdefgh"):
            self.judged("i", ("inner", name), ("inner",))
        self.judged("m", ("inner", "p"), ("inner",))
        self.judged("w", ("inner", "w"), ("inner",))
        # Where a called one has none, no other paper is right.
        for paper in (("kinds", []), ("clash", ["a"]), ("kinds", [None])):
            self.judged("i", paper, ("inner",))

    def test_table(self):
        table = self.table()
        self.judged("m", ("kinds", table), None)
        wrong = [
            [], table[:-1], table + [table[-1]], table[1:] + table[:1], [table[1], table[0]] + table[2:],
            table[:-1] + [None], [list(table[0])] + table[1:], [table[0] + (0,)] + table[1:], [("a",)] + table[1:],
            [("a", "numbers")] + table[1:], [("a", True)] + table[1:], [("a", -1)] + table[1:], [("a", None)] + table[1:],
            [("a", ["number"])] + table[1:], [(["a"], "number")] + table[1:], [("b", "number")] + table[1:],
            [("a", "")] + table[1:], [(None, 0)] * len(table),
        ]
        for at, (place, kind) in enumerate(table):
            if place == (0, ()):
                for other in ((False, ()), (0, []), [0, ()], (0, (0,)), (1, ()), (0,), (0, (), ())):
                    wrong.append(table[:at] + [(other, kind)] + table[at + 1:])
            if place == (0, (2, 0)):
                for other in ((0, (2, False)), (False, (2, 0)), (0, [2, 0])):
                    wrong.append(table[:at] + [(other, kind)] + table[at + 1:])
        for thing in wrong:
            self.judged("m", ("kinds", thing), ("table",))
        # The call's own place has none.
        at = [place for place, _ in table].index((1, (0,)))
        self.judged("m", ("kinds", table[:at] + [((1, ()), 0)] + table[at:]), ("table",))

    def test_kind(self):
        table = self.table()
        for at, (place, kind) in enumerate(table):
            for other in ("number", "truth", 5):
                changed = table[:at] + [(place, other)] + table[at + 1:]
                told = kinds_judged(self.BOOK, "m", ("kinds", changed))
                if other == kind:
                    self.assertIsNone(told)
                elif told is not None:
                    self.assertEqual(told[0], "kind")
                    self.assertGreaterEqual(told[1], at)
                    self.assertIs(type(told[1]), int)
        # Of b itself nothing is told; the first place that is tied to it is.
        at = [place for place, _ in table].index((0, (0,)))
        self.judged("m", ("kinds", [table[0], ("b", 3)] + table[2:]), ("kind", at))
        # A place tied to one ahead, of the kind that it is told itself.
        book = book_of("MODULE m (a) OUT (x)\nx = a\ny = (a + 1)")
        told = [("a", 0), ("x", 0), ("y", "number"), ((0, ()), 0), ((1, ()), "number"), ((1, (0,)), "number"),
                ((1, (1,)), "number")]
        self.assertEqual(kinds_judged(book, "m", ("kinds", told)), ("kind", 5))
        told[5] = ((1, (0,)), 0)
        self.assertEqual(kinds_judged(book, "m", ("kinds", told)), ("kind", 5))
        told[0:2] = [("a", "number"), ("x", "number")]
        self.assertEqual(kinds_judged(book, "m", ("kinds", told)), ("kind", 3))

    def test_of_a_module_that_clashes_no_table_is_right(self):
        flows_of_k = ["a", "x", "y", "z", "b", "c"]
        others = [(0, ()), (0, (0,)), (0, (1,)), (0, (1, 0)), (1, ()), (1, (0,)), (1, (1,)), (2, ()), (2, (0,)),
                  (3, ()), (4, ())]
        for kind, at in (("number", 8), ("truth", 6), (0, 6)):
            paper = ("kinds", [(place, kind) for place in flows_of_k + others])
            self.judged("k", paper, ("kind", at))

    def test_a_table_that_is_not_the_widest(self):
        book = book_of("MODULE m (a, b) OUT (x)\nx = a\ny = b")
        for one, other in (("number", "truth"), ("truth", "truth"), (0, 0), (7, 3), (10 ** 29, "number"), (1, 0)):
            told = [("a", one), ("b", other), ("x", one), ("y", other), ((0, ()), one), ((1, ()), other)]
            self.assertIsNone(kinds_judged(book, "m", ("kinds", told)))
        told = [("a", 0), ("b", 1), ("x", 1), ("y", 1), ((0, ()), 1), ((1, ()), 1)]
        self.assertEqual(kinds_judged(book, "m", ("kinds", told)), ("kind", 4))

    def test_chain(self):
        chain = kinds(self.BOOK, "k")[1]
        self.judged("k", ("clash", chain), None)
        self.judged("k", ("clash", [(4, ()), "c", (3, ()), "b", (2, (0,))]), None)
        self.judged("k", ("clash", [(0, (1,))]), None)
        # Told neither way at its begin, then at its end.
        self.judged("k", ("clash", ["c", (3, ()), "b", (2, (0,))]), ("begin",))
        self.judged("k", ("clash", ["c", (4, ())]), ("begin",))
        self.judged("k", ("clash", ["c"]), ("begin",))
        self.judged("k", ("clash", [(4, ()), "c", (3, ()), "b"]), ("end",))
        self.judged("k", ("clash", [(4, ())]), ("end",))
        self.judged("k", ("clash", [(4, ()), "b", "c", (2, (0,))]), ("tie", 0))
        self.judged("k", ("clash", [(4, ()), "c", (3, ()), (2, (0,))]), ("tie", 2))
        self.judged("k", ("clash", [(4, ()), "c", "c", (3, ()), "b", (2, (0,))]), ("tie", 1))
        # Ties go both ways, so a chain may come back on itself.
        self.judged("k", ("clash", [(4, ()), "c", (4, ()), "c", (3, ()), "b", (2, (0,))]), None)
        self.judged("m", ("clash", [(1, (0,))]), ("end",))
        self.judged("m", ("clash", ["b"]), ("begin",))

    def test_ties_of_calls_go_from_each_to_the_next_one(self):
        book = book_of("MODULE q (a, b) OUT (x, y)\nx = a\ny = (IF TRUE THEN a ELSE b)",
                       "MODULE m (a) OUT (x)\nx, y = q(1, 2)\nz = (NOT x)\nv = (NOT y)")
        self.assertIsNone(kinds_judged(book, "m", ("clash", [(0, (1,)), "x", (1, (0,))])))
        self.assertIsNone(kinds_judged(book, "m", ("clash", [(0, (0,)), (0, (1,)), "x", "y", (2, (0,))])))
        self.assertEqual(kinds_judged(book, "m", ("clash", [(0, (0,)), "x", (1, (0,))])), ("tie", 0))
        self.assertEqual(kinds_judged(book, "m", ("clash", [(0, (1,)), "y", (2, (0,))])), ("tie", 0))

    def test_just_one_kind_of_paper_is_let_by(self):
        for seed in range(40):
            book = Maker(seed, words=WORDS[seed % 4]).book(3, rows=3, deep=3)
            for module in book.modules():
                word, thing = kinds(book, module[0])
                table = [(place, "number") for place in flows(module) + [
                    place for place in places(module) if place not in places(module, only=("call",))]]
                for kind in ("number", "truth", 0):
                    paper = ("kinds", [(place, kind) for place, _ in table])
                    if word != "kinds":
                        self.assertIsNotNone(kinds_judged(book, module[0], paper))
                if word == "kinds":
                    for place, _ in table:
                        self.assertIsNotNone(kinds_judged(book, module[0], ("clash", [place])))

    def test_papers_are_not_changed(self):
        paper = kinds(self.BOOK, "m")
        held = copy.deepcopy(paper)
        kinds_judged(self.BOOK, "m", paper)
        self.assertEqual(paper, held)


if __name__ == "__main__":
    unittest.main()
