"""The judge of clocks (18)."""

import unittest

from clockloom.books import Book
from clockloom.clocks import clocks
from clockloom.errors import NoName
from clockloom.lines import clocks_judged
from clockloom.trees import flows, places
from tests.making import ANYTHING, CLOCKED, Maker, SPLIT, book_of
from tests.oracles import clock_rules, forced, lines_right

TWO = "MODULE m (a, c, d) OUT (x)\nx = ((a WHEN c) + (a WHEN d))"
WITHIN = "MODULE m (a) OUT (x)\nx = (a WHEN x)"
# The row tells that x is over itself.
STRAIGHT = [SPLIT, "MODULE m (a) OUT (x)\nx, y = s(a, x)"]
# p and q are over the same flow, so they are the same.
JOIN = "MODULE m (a, c, d) OUT (p)\np = (a WHEN c)\nq = (a WHEN c)\nr = (q + (a WHEN d))"
ASKS = "MODULE k (c, d) OUT (x)\nx = (MERGE c d 0)"
RINGED = "MODULE r (a) OUT (x)\nx = (x + a)"
EVERY = """MODULE m (a, b, c, d, e) OUT (x)
x = (MERGE c (a WHEN c) (IF (b < 3) THEN ((a + 1) - (a * 2)) ELSE (0 THEN a)))
y = ((BEATS 0(1)) AND (NOT ((e = c) OR TRUE)))
z, v = s(d, e)
u = (z UNLESS w)
w = (z < 5)
t = k(c, d)"""


class Judged(unittest.TestCase):
    def told(self, paper, *texts):
        return clocks_judged(book_of(*texts), "m", paper)

    def clash(self, text, *lines):
        return self.told(("clash", list(lines)), *[text] if isinstance(text, str) else text)


class WhatClocksTells(Judged):
    def test_of_every_word(self):
        text = EVERY.replace("(IF (b < 3) THEN ((a + 1) - (a * 2)) ELSE (0 THEN a))", "(IF (b < 3) THEN b ELSE (0 THEN b))")
        book = book_of(SPLIT, ASKS, text.replace("t = k(c, d)", "t = k(c, f)\nf = (1 WHEN c)"))
        paper = clocks(book, "m")
        self.assertEqual(paper[0], "clocks")
        self.assertIsNone(clocks_judged(book, "m", paper))
        self.assertIsNone(clocks_judged(paper=clocks(book, "s"), name="s", book=book))

    def test_of_many_modules(self):
        found = {}
        for seed in range(200):
            book = Book(Maker(seed, words=CLOCKED[seed % 4], plain=(8, 20, 40)[seed % 3]).modules(3, rows=3))
            for module in book.modules():
                paper = clocks(book, module[0])
                self.assertIsNone(clocks_judged(book, module[0], paper), paper)
                found[paper[0]] = True
                if paper[0] == "clash":
                    found[paper[1][-1][0]] = True
        self.assertEqual(sorted(found), ["clash", "clocks", "inner", "plain", "two", "within"])

    def test_no_name_goes_ahead(self):
        with self.assertRaises(NoName) as caught:
            clocks_judged(book_of(SPLIT), "m", None)
        self.assertEqual(caught.exception.name, "m")


class Forms(Judged):
    def test_anything(self):
        for text in (SPLIT.replace(" s ", " m "), TWO, WITHIN):
            for thing in ANYTHING:
                self.assertEqual(self.told(thing, text), ("inner",) if thing == ("inner", "a") else ("paper",), thing)

    def test_papers(self):
        text = SPLIT.replace(" s ", " m ")
        for paper in (
            ("clocks",), ("clocks", ()), ("clocks", None), ("clocks", [], 0), ["clocks", []], ("clash", []),
            ("clash", ()), ("clash", [()]), ("clash", [[]]), ("inner", 0), ("inner", ""), ("inner", "M"),
            ("inner", "m", 0), ("inner", "abcdefghi"), ("plain", 0), ("plain", 0, 0, 0), ("plain", True, 0),
            ("plain", 0, False), ("plain", -1, 0), ("plain", 0, -1), ("plain", "0", 0), ("plain", None, 0),
            ("kinds", []), (0, []), (None, []), ([], []), ("plain", ["a"], 0),
            ("lines", [(("same", "a", "c"), ("row", 0)), ("two", 0, 0)]), ("plain", [("two", 0, 0)]),
        ):
            self.assertEqual(self.told(paper, text), ("paper",), paper)
        self.assertEqual(self.told(("clocks", []), text), ("table",))
        self.assertEqual(self.told(("inner", "m"), text), ("inner",))
        self.assertEqual(self.told(("plain", 10 ** 29, 0), text), ("plain",))

    def test_lines_by_form(self):
        fact, over = ("same", "a", "c"), ("over", "x", "c", True)
        row = ("row", 0)
        fine = [(fact, row), (over, row), ("two", 0, 1)]
        self.assertEqual(self.clash(TWO, *fine), ("line", 0))
        for at, thing in (
            (0, fact), (0, (fact,)), (0, (fact, row, 0)), (0, [fact, row]), (0, (list(fact), row)),
            (0, (("same", "a"), row)), (0, (("same", "a", "z"), row)), (0, (("same", "a", (0,)), row)),
            (0, (("same", "a", (1, ())), row)), (0, (("same", "a", (0, (5,))), row)),
            (0, (("same", (False, ()), "a"), row)), (0, (("same", (0, (True,)), "a"), row)),
            (0, (("same", "a", [0, ()]), row)), (0, (("same", "a", (0, [])), row)), (0, (("same", "a", 0), row)),
            (0, (("same", "a", "c", True), row)), (0, (("under", "a", "c"), row)), (0, (("over", "a", "c"), row)),
            (0, (("same", "a", "c", "x"), row)), (0, (("under", "a", "c", True), row)), (1, (("over", "a", "c"), row)),
            (0, (("over", "a", "c", 1), row)), (0, (("over", "a", "c", None), row)),
            (0, (("over", "a", (0, ()), True), row)), (0, (("over", "a", "z", True), row)),
            (0, (("over", ["a"], "c", True), row)), (0, (("over", "a", ["c"], True), row)), (0, (None, row)),
            (0, (fact, ("row",))), (0, (fact, ("row", 0, 0))), (0, (fact, ("row", True))), (0, (fact, ("row", -1))),
            (0, (fact, ("row", "0"))), (0, (fact, ["row", 0])), (0, (fact, ("turn", 0, 0))), (0, (fact, ("chain", 0))),
            (0, (fact, ("carry", 0, False))), (0, (fact, ("join", 0, None))), (0, (fact, ("so", 0))), (0, (fact, ())),
            (0, (fact, None)), (0, (fact, (0, 0))), (0, ("two", 0, 0)),
            (2, ("two", 0)), (2, ("two", 0, 1, 2)), (2, ("two", 0, True)), (2, ("two", -1, 0)), (2, ["two", 0, 1]),
            (2, ("two", "0", 1)), (2, ("within", [])), (2, ("within", ())), (2, ("within", (0,))), (2, ("within", 0)),
            (2, ("within", [True])), (2, ("within", [-1])), (2, ("within", [0], 0)), (2, ("third", [0])), (2, ()),
            (2, None), (2, (fact, row)),
        ):
            lines = list(fine)
            lines[at] = thing
            self.assertEqual(self.clash(TWO, *lines), ("paper",), thing)

    def test_two_thousand_lines_and_one_more(self):
        row = (("over", "x", "x", True), ("row", 0))
        self.assertIsNone(self.clash(STRAIGHT, *[row] * 2000, ("within", [1999])))
        self.assertEqual(self.clash(STRAIGHT, *[row] * 2001, ("within", [0])), ("paper",))
        self.assertIsNone(self.clash(STRAIGHT, row, ("within", [0] * 2500)))
        self.assertIsNone(self.clash(STRAIGHT, row, ("within", [0])))

    def test_numbers_that_are_not_there_are_lines_that_are_not_right(self):
        row = (("over", "x", "x", True), ("row", 0))
        far = 10 ** 29
        self.assertEqual(self.clash(STRAIGHT, (row[0], ("row", far)), ("within", [0])), ("line", 0))
        self.assertEqual(self.clash(STRAIGHT, row, (("same", "a", "x"), ("turn", far)), ("within", [0])), ("line", 1))
        for clash in (("within", [1]), ("within", [0, far]), ("two", 0, 1), ("two", far, 0)):
            self.assertEqual(self.clash(STRAIGHT, row, clash), ("line", 1))


class InnerAndPlain(Judged):
    def test_inner(self):
        top = "MODULE m (a) OUT (x)\nx = g(a)\ny = r(a)\nz = q(a)"
        texts = [RINGED, RINGED.replace(" r ", " q "), "MODULE g (a) OUT (x)\nx = a", top]
        self.assertIsNone(self.told(("inner", "r"), *texts))
        for name in ("q", "g", "m", "z"):
            self.assertEqual(self.told(("inner", name), *texts), ("inner",))
        for paper in (("clocks", []), ("plain", 0, 0), ("clash", [("two", 0, 0)])):
            self.assertEqual(self.told(paper, *texts), ("inner",))
        self.assertEqual(self.told(("clash", []), *texts), ("paper",))

    def test_plain(self):
        top = "MODULE m (a) OUT (x)\nx = k(b, 7)\ny, z = s(a, (NOT b))\nb = (a < 1)\nv = k(TRUE, 3)"
        texts = [SPLIT, ASKS, top]
        self.assertIsNone(self.told(("plain", 1, 1), *texts))
        for numbers in ((1, 0), (0, 0), (3, 0), (2, 0), (9, 9)):
            self.assertEqual(self.told(("plain", *numbers), *texts), ("plain",))
        self.assertEqual(self.told(("clocks", []), *texts), ("plain",))
        self.assertEqual(self.told(("clash", [("two", 0, 0)]), *texts), ("plain",))
        self.assertEqual(self.told(("inner", "k"), *texts), ("inner",))


class Tables(Judged):
    TEXT = "MODULE m (a, c, d) OUT (x)\nx = (a WHEN c)\ny = d"
    PLACES = ["a", "c", "d", "x", "y", (0, ()), (0, (0,)), (1, ())]

    def table(self, *clocks_in_order):
        return self.told(("clocks", list(zip(self.PLACES, clocks_in_order))), self.TEXT)

    def test_the_widest_and_others(self):
        base, over, other = (0, ()), (0, (("c", True),)), (1, ())
        self.assertIsNone(self.table(base, base, other, over, other, over, base, other))
        self.assertIsNone(self.table(base, base, base, over, base, over, base, base))
        root = (7, (("x", False), ("x", False)))
        on = (7, (("x", False), ("x", False), ("c", True)))
        self.assertIsNone(self.table(root, root, over, on, over, on, root, over))

    def test_each_wrong_clock(self):
        base, over, other = (0, ()), (0, (("c", True),)), (1, ())
        fine = [base, base, other, over, other, over, base, other]
        for at, clock, told in (
            (0, other, 6), (1, other, 5), (2, base, 7), (3, base, 5), (3, (1, (("c", True),)), 5),
            (3, (0, (("c", False),)), 5), (3, (0, (("a", True),)), 5), (3, (0, (("c", True), ("c", True))), 5),
            (4, base, 7), (5, base, 5), (6, other, 6), (7, base, 7),
        ):
            table = list(fine)
            table[at] = clock
            self.assertEqual(self.table(*table), ("clock", told), (at, clock))
        self.assertEqual(self.table(*[over] * 8), ("clock", 5))

    def test_a_place_that_stands_to_itself(self):
        book = book_of(WITHIN)
        paper = ("clocks", [("a", (0, ())), ("x", (0, ())), ((0, ()), (0, ())), ((0, (0,)), (0, ()))])
        self.assertEqual(clocks_judged(book, "m", paper), ("clock", 2))
        book = book_of("MODULE m () OUT (x)\nx = (MERGE x 1 x)")
        table = [(place, (0, ())) for place in ["x"] + places(book.module("m"))]
        self.assertEqual(clocks_judged(book, "m", ("clocks", table)), ("clock", 2))

    def test_forms(self):
        base, over, other = (0, ()), (0, (("c", True),)), (1, ())
        fine = list(zip(self.PLACES, [base, base, other, over, other, over, base, other]))
        for at, line in (
            (0, ("a",)), (0, ("a", base, 0)), (0, ["a", base]), (0, ("c", base)), (0, (0, base)), (0, None),
            (0, ("a", None)), (0, ("a", (0,))), (0, ("a", [0, ()])), (0, ("a", (False, ()))), (0, ("a", (-1, ()))),
            (0, ("a", (0, []))), (0, ("a", (0, None))), (0, ("a", (0, (("z", True),)))), (0, ("a", (0, (("c", 1),)))),
            (0, ("a", (0, (("c",),)))), (0, ("a", (0, (["c", True],)))), (0, ("a", (0, ((0, True),)))),
            (0, ("a", (0, ((["c"], True),)))), (0, ("a", (0, (((0, ()), True),)))), (0, ("a", ("0", ()))),
            (5, ((False, ()), over)), (5, ((0, []), over)), (6, ((0, (False,)), base)), (5, ([0, ()], over)),
        ):
            table = list(fine)
            table[at] = line
            self.assertEqual(self.told(("clocks", table), self.TEXT), ("table",), line)
        for table in ([], fine[:-1], fine[1:], fine + [fine[-1]], fine[::-1]):
            self.assertEqual(self.told(("clocks", table), self.TEXT), ("table",))
        # The whole table is looked at ahead of its clocks.
        table = [("a", (9, ()))] + fine[1:-1] + [(fine[-1][0], (True, ()))]
        self.assertEqual(self.told(("clocks", table), self.TEXT), ("table",))

    def test_of_a_module_that_has_no_clocks_none_is_let_by(self):
        for seed in range(40):
            book = Maker(seed, words=CLOCKED[seed % 4], plain=40).book(1, rows=2)
            module = book.modules()[0]
            spots = flows(module) + places(module)
            flat = ("clocks", [(place, (0, ())) for place in spots])
            if clocks(book, module[0])[0] == "clash":
                self.assertEqual(clocks_judged(book, module[0], flat)[0], "clock")

    def test_calls(self):
        top = "MODULE m (a, c) OUT (x)\nx, y = s((a + 1), c)"
        book = book_of(SPLIT, top)
        word, table = clocks(book, "m")
        self.assertIsNone(clocks_judged(book, "m", (word, table)))
        for at, (place, clock) in enumerate(table):
            wrong = table[:at] + [(place, (5, clock[1]))] + table[at + 1:]
            self.assertEqual(clocks_judged(book, "m", (word, wrong))[0], "clock", place)


class Reasons(Judged):
    A, C, D, X = (0, (0, 0)), "c", "d", "x"
    ONE, OTHER = (0, (0,)), (0, (1,))

    def line(self, told, *lines, text=TWO):
        """That these lines, with a clash behind them that is wrong, go wrong at told."""
        self.assertEqual(self.clash(text, *lines, ("two", 0, 0)), ("line", told))

    def test_rows(self):
        for fact in (("same", "x", (0, ())), ("same", (0, ()), "x"), ("same", (0, ()), self.ONE),
                     ("over", self.ONE, "c", True), ("same", self.A, "c"), ("same", "c", self.A), ("same", "a", self.A)):
            self.line(1, (fact, ("row", 0)))
            self.line(0, (fact, ("row", 1)))
        for fact in (("same", "x", self.ONE), ("same", "x", "x"), ("over", self.ONE, "c", False),
                     ("over", "x", "c", True), ("over", self.ONE, "d", True), ("same", "a", "c"), ("same", "c", self.ONE)):
            self.line(0, (fact, ("row", 0)))

    def test_turn(self):
        fact, over = ("same", "x", (0, ())), ("over", self.ONE, "c", True)
        self.line(2, (fact, ("row", 0)), (("same", (0, ()), "x"), ("turn", 0)))
        self.line(1, (fact, ("row", 0)), (fact, ("turn", 0)))
        self.line(1, (fact, ("row", 0)), (("same", (0, ()), "x"), ("turn", 1)))
        self.line(0, (fact, ("turn", 1)), (("same", (0, ()), "x"), ("turn", 0)))
        self.line(1, (over, ("row", 0)), (("over", self.ONE, "c", True), ("turn", 0)))
        self.line(1, (over, ("row", 0)), (("same", "c", self.ONE), ("turn", 0)))
        self.line(1, (fact, ("row", 0)), (("over", (0, ()), "c", True), ("turn", 0)))

    def test_a_line_does_not_stand_on_itself(self):
        fact, over = ("same", "x", "x"), ("over", "x", "x", True)
        for reason in (("turn", 0), ("chain", 0, 0)):
            self.line(0, (fact, reason))
            self.line(1, (("same", "x", (0, ())), ("row", 0)), (fact, (reason[0],) + (1,) * (len(reason) - 1)))
        self.line(2, (("same", "x", (0, ())), ("row", 0)), (("same", (0, ()), "x"), ("turn", 0)), (over, ("carry", 2, 2)))
        self.line(1, (("same", "x", (0, ())), ("row", 0)), (over, ("carry", 0, 1)))
        self.line(0, (fact, ("join", 0, 0)))

    def test_chain(self):
        one, other = (("same", "x", (0, ())), ("row", 0)), (("same", (0, ()), self.ONE), ("row", 0))
        over = (("over", self.ONE, "c", True), ("row", 0))
        made = ("same", "x", self.ONE)
        self.line(3, one, other, (made, ("chain", 0, 1)))
        for i, j in ((1, 0), (0, 0), (1, 1), (0, 2), (2, 1), (0, 3)):
            self.line(2, one, other, (made, ("chain", i, j)))
        self.line(2, one, other, (("same", self.ONE, "x"), ("chain", 0, 1)))
        self.line(2, one, other, (("same", "x", self.OTHER), ("chain", 0, 1)))
        self.line(2, one, (("same", "c", self.A), ("row", 0)), (("same", "x", self.A), ("chain", 0, 1)))
        self.line(2, one, over, (made, ("chain", 0, 1)))
        self.line(2, other, over, (("same", (0, ()), "c"), ("chain", 0, 1)))
        self.line(2, over, other, (made, ("chain", 0, 1)))
        self.line(2, one, other, (("over", "x", "c", True), ("chain", 0, 1)))

    def test_carry(self):
        same, over = (("same", (0, ()), self.ONE), ("row", 0)), (("over", self.ONE, "c", True), ("row", 0))
        made = ("over", (0, ()), "c", True)
        self.line(3, same, over, (made, ("carry", 0, 1)))
        for i, j in ((1, 0), (0, 0), (1, 1), (0, 2), (2, 1), (0, 7)):
            self.line(2, same, over, (made, ("carry", i, j)))
        self.line(2, same, over, (("over", (0, ()), "c", False), ("carry", 0, 1)))
        self.line(1, (("over", "x", "x", True), ("row", 0)), (("over", "x", "x", True), ("carry", 0, 0)), text=STRAIGHT)
        self.line(2, same, over, (("over", (0, ()), "d", True), ("carry", 0, 1)))
        self.line(2, same, over, (("over", "x", "c", True), ("carry", 0, 1)))
        self.line(2, same, over, (("same", (0, ()), "c"), ("carry", 0, 1)))
        self.line(2, same, (("over", self.OTHER, "d", True), ("row", 0)), (("over", (0, ()), "d", True), ("carry", 0, 1)))

    def test_join(self):
        one, other = (("over", "p", "c", True), ("carry", 1, 0)), (("over", "q", "c", True), ("carry", 4, 3))
        begin = [(("over", (0, ()), "c", True), ("row", 0)), (("same", "p", (0, ())), ("row", 0)), one,
                 (("over", (1, ()), "c", True), ("row", 1)), (("same", "q", (1, ())), ("row", 1)), other]
        made = ("same", "p", "q")
        self.line(7, *begin, (made, ("join", 2, 5)), text=JOIN)
        self.line(7, *begin, (("same", "q", "p"), ("join", 5, 2)), text=JOIN)
        self.line(7, *begin, (("same", "p", "p"), ("join", 2, 2)), text=JOIN)
        for i, j in ((5, 2), (2, 2), (2, 3), (1, 5), (2, 4), (2, 6), (6, 5)):
            self.line(6, *begin, (made, ("join", i, j)), text=JOIN)
        self.line(6, *begin, (("over", "p", "q", True), ("join", 2, 5)), text=JOIN)
        sames = [(("same", "x", (0, ())), ("row", 0)), (("same", self.ONE, (0, ())), ("row", 0))]
        self.line(2, *sames, (("same", "x", self.ONE), ("join", 0, 1)))
        apart = (("over", (2, (1,)), "d", True), ("row", 2))
        self.line(7, *begin, apart, (("same", "p", (2, (1,))), ("join", 2, 6)), text=JOIN)

    def test_each_reason_tells_facts_of_its_own_kind(self):
        same, over = (("same", (0, ()), self.ONE), ("row", 0)), (("over", self.ONE, "c", True), ("row", 0))
        self.line(2, same, over, (("over", (0, ()), "c", True), ("chain", 0, 1)))
        self.line(2, same, over, (("over", (0, ()), "c", True), ("join", 0, 1)))
        self.line(1, same, (("over", (0, ()), "c", True), ("turn", 0)))


class TheClash(Judged):
    def test_two(self):
        one, other = (("over", (0, (0,)), "c", True), ("row", 0)), (("over", (0, (1,)), "d", True), ("row", 0))
        lines = [one, other, (("same", (0, ()), (0, (0,))), ("row", 0)), (("same", (0, ()), (0, (1,))), ("row", 0)),
                 (("over", (0, ()), "c", True), ("carry", 2, 0)), (("over", (0, ()), "d", True), ("carry", 3, 1))]
        self.assertIsNone(self.clash(TWO, *lines, ("two", 4, 5)))
        self.assertIsNone(self.clash(TWO, *lines, ("two", 5, 4)))
        for i, j in ((4, 4), (0, 1), (4, 1), (2, 3), (4, 2), (2, 4), (4, 6), (6, 5)):
            self.assertEqual(self.clash(TWO, *lines, ("two", i, j)), ("line", 6), (i, j))
        self.assertEqual(self.clash(TWO, *lines, ("within", [4])), ("line", 6))

    def test_two_of_one_flow_here_true_there_false(self):
        text = "MODULE m (a, c) OUT (x)\nx = (a WHEN c)\ny = (x AND (a UNLESS c))"
        self.assertIsNone(clocks_judged(book_of(text), "m", clocks(book_of(text), "m")))
        lines = [(("over", (1, (1,)), "c", False), ("row", 1)), (("same", (1, ()), (1, (1,))), ("row", 1)),
                 (("over", (1, ()), "c", False), ("carry", 1, 0)), (("same", "x", (0, ())), ("row", 0)),
                 (("over", (0, ()), "c", True), ("row", 0)), (("over", "x", "c", True), ("carry", 3, 4)),
                 (("same", (1, (0,)), "x"), ("row", 1)), (("over", (1, (0,)), "c", True), ("carry", 6, 5)),
                 (("same", (1, ()), (1, (0,))), ("row", 1)), (("over", (1, ()), "c", True), ("carry", 8, 7))]
        self.assertIsNone(self.clash(text, *lines, ("two", 2, 9)))

    def test_within(self):
        one = (("over", (0, ()), "x", True), ("row", 0))
        two = (("same", "x", (0, ())), ("row", 0))
        three = (("over", "x", "x", True), ("carry", 1, 0))
        self.assertIsNone(self.clash(WITHIN, one, two, three, ("within", [2])))
        self.assertIsNone(self.clash(WITHIN, one, two, three, ("within", [2, 2])))
        for some in ([0], [1], [0, 2], [2, 0], [3], [2, 1]):
            self.assertEqual(self.clash(WITHIN, one, two, three, ("within", some)), ("line", 3), some)
        self.assertEqual(self.clash(WITHIN, one, two, three, ("two", 2, 2)), ("line", 3))

    def test_within_of_several(self):
        text = ("MODULE m (b, c, d) OUT (x)\nx = ((1 WHEN b) = c)\ny = ((1 WHEN c) = d)\nz = ((1 WHEN d) = b)")
        lines = []
        for k, (over, x) in enumerate((("b", "c"), ("c", "d"), ("d", "b"))):
            at = len(lines)
            lines += [(("over", (k, (0,)), over, True), ("row", k)), (("same", (k, ()), (k, (0,))), ("row", k)),
                      (("over", (k, ()), over, True), ("carry", at + 1, at)), (("same", x, (k, (1,))), ("row", k)),
                      (("same", (k, (1,)), (k, ())), ("row", k)), (("same", x, (k, ())), ("chain", at + 3, at + 4)),
                      (("over", x, over, True), ("carry", at + 5, at + 2))]
        for some in ([6, 20, 13], [20, 13, 6], [13, 6, 20], [13, 6, 20] * 2):
            # Each but the first is of the flow over which the one ahead is.
            told = self.clash(text, *lines, ("within", some))
            self.assertIsNone(told, some)
        for some in ([6, 13, 20], [6], [6, 20], [6, 20, 13, 6], [20, 6]):
            self.assertEqual(self.clash(text, *lines, ("within", some)), ("line", 21), some)

    def test_by_a_slow_judge(self):
        for seed in range(60):
            book = Maker(seed, words=CLOCKED[seed % 4], plain=30).book(2, rows=2)
            name = book.modules()[-1][0]
            word, lines = clocks(book, name)[:2]
            if word == "clash":
                rules = clock_rules(book, name)
                for at in range(len(lines)):
                    less = lines[:at] + lines[at + 1:]
                    if at < len(lines) - 1:
                        self.assertEqual(clocks_judged(book, name, (word, less)) is None, lines_right(less, rules))

    def test_just_one_of_a_table_and_lines(self):
        for seed in range(60):
            book = Maker(seed, words=CLOCKED[seed % 4], plain=30).book(1, rows=2)
            module = book.modules()[0]
            if clocks(book, module[0])[0] == "clocks":
                facts = {fact for _, fact in clock_rules(book, module[0])}
                _, over = forced(facts, flows(module) + places(module))
                self.assertTrue(all(len(labels) <= 1 for labels in over.values()))


if __name__ == "__main__":
    unittest.main()
