"""Clocks, and the lines that show why there are none (15, 16, 17, 18)."""

import copy
import time
import unittest

from clockloom.clocks import clocks
from clockloom.errors import NoName
from clockloom.trees import flows, places
from tests.making import CLOCKED, Maker, SPLIT, book_of, twelve_modules
from tests.oracles import clock_rules, lines_right, slow_clocks

# Ins that are there where an in is true.
ASKS = "MODULE k (c, d) OUT (x)\nx = (MERGE c d 0)"
# An out hangs on an out.
OUTS = "MODULE o (a, b) OUT (x, d)\nd = (a < b)\nx = (a WHEN d)"
RINGED = "MODULE r (a) OUT (x)\nx = (x + a)"
CLASHING = "MODULE w (a, c) OUT (x)\nx = (a + (a WHEN c))"


class TheWidest(unittest.TestCase):
    def rows(self, *rows, ins="a, b, c, d"):
        """The clocks of a module by places."""
        book = book_of(f"MODULE m ({ins}) OUT (x)\n" + "\n".join(rows))
        word, table = clocks(book, "m")
        self.assertEqual(word, "clocks", table)
        return dict(table)

    def test_a_whole_table(self):
        book = book_of("MODULE m (a, c) OUT (x)\nx = (MERGE c (a WHEN c) (0 THEN y))\ny = (1 UNLESS c)\nz = TRUE")
        on, off = (("c", True),), (("c", False),)
        self.assertEqual(clocks(book, "m"), ("clocks", [
            ("a", (0, ())), ("c", (0, ())), ("x", (0, ())), ("y", (0, off)), ("z", (1, ())), ((0, ()), (0, ())),
            ((0, (0,)), (0, on)), ((0, (0, 0)), (0, ())), ((0, (1,)), (0, off)), ((0, (1, 0)), (0, off)),
            ((1, ()), (0, off)), ((1, (0,)), (0, ())), ((2, ()), (1, ())),
        ]))

    def test_words_that_tie_all_to_the_same(self):
        for text in ("(a + b)", "(a - b)", "(a * b)", "(a < b)", "(a = b)", "(a AND b)", "(a OR b)"):
            told = self.rows(f"x = {text}")
            self.assertEqual([told[x][0] for x in "abcdx"], [0, 0, 1, 2, 0])
            self.assertEqual([told[(0, path)] for path in ((), (0,), (1,))], [(0, ())] * 3)
        told = self.rows("x = (IF a THEN b ELSE d)")
        self.assertEqual([told[x][0] for x in "abcdx"], [0, 0, 1, 0, 0])
        for text in ("(NOT b)", "(0 THEN b)", "b"):
            self.assertEqual([self.rows(f"x = {text}")[x][0] for x in "abcdx"], [0, 1, 2, 3, 1])

    def test_words_that_stand_to_nothing(self):
        for text in ("7", "TRUE", "(BEATS 0(1))"):
            told = self.rows(f"x = {text}")
            self.assertEqual([told[x][0] for x in "abcdx"], [0, 1, 2, 3, 4])
            self.assertEqual(told[(0, ())], (4, ()))

    def test_when(self):
        for word, truth in (("WHEN", True), ("UNLESS", False)):
            told = self.rows(f"x = (a {word} c)")
            self.assertEqual(told["a"], told["c"])
            self.assertEqual(told["x"], (told["c"][0], (("c", truth),)))
            self.assertEqual(told[(0, ())], told["x"])
            self.assertEqual(told[(0, (0,))], told["c"])
            self.assertIs(type(told["x"][1][0][1]), bool)

    def test_merge(self):
        told = self.rows("x = (MERGE c a b)")
        root = told["c"][0]
        self.assertEqual([told[x] for x in "abcx"],
                         [(root, (("c", True),)), (root, (("c", False),)), (root, ()), (root, ())])
        self.assertEqual(told[(0, (0,))], told["a"])
        self.assertEqual(told[(0, (1,))], told["b"])

    def test_conditions_one_behind_the_other(self):
        told = self.rows("x = (y WHEN d)", "y = (a WHEN c)")
        self.assertEqual(told["x"][1], (("c", True), ("d", True)))
        self.assertEqual([told[x][1] for x in "acdy"], [(), (), (("c", True),), (("c", True),)])
        told = self.rows("x = (MERGE e a b)", "e = (MERGE d c (TRUE UNLESS d))")
        self.assertEqual([told[x][1] for x in "abcdex"],
                         [(("e", True),), (("e", False),), (("d", True),), (), (), ()])
        told = self.rows("x = ((a WHEN b) WHEN y)", "y = (c WHEN b)", "z = ((d WHEN v) UNLESS u)", "v = (y WHEN y)",
                         "u = (v WHEN v)")
        at = (("b", True), ("y", True))
        self.assertEqual(told["x"][1], at)
        self.assertEqual(told["v"][1], at)
        self.assertEqual(told["u"][1], at + (("v", True),))
        self.assertEqual(told["z"][1], at + (("v", True), ("u", False)))

    def test_deep(self):
        rows = ["x = (a WHEN b)"] + [f"{y} = ({x} WHEN {x})" for x, y in zip("xefghijklm", "efghijklmn")]
        told = self.rows(*rows)
        self.assertEqual(told["n"][1], tuple((x, True) for x in "bxefghijklm"))

    def test_roots_are_numbered_as_they_come(self):
        # The root of a comes first, though it is that of d.
        told = self.rows("x = (MERGE d a 1)", "y = 5", "z = (b + b)")
        self.assertEqual([told[x][0] for x in "abcdxyz"], [0, 1, 2, 0, 0, 3, 1])
        told = self.rows("x = (MERGE q 1 2)", "q = ((BEATS (1)) OR FALSE)", ins="a")
        self.assertEqual([told[x][0] for x in ("a", "x", "q", (0, (0,)))], [0, 1, 1, 1])

    def test_conditions_are_the_same_by_name_alone(self):
        book = book_of("MODULE m (a, c) OUT (x)\nx = ((a WHEN c) + (a WHEN d))\nd = c")
        self.assertEqual(clocks(book, "m")[0], "clash")

    def test_calls(self):
        book = book_of(SPLIT, "MODULE m (a, b, e) OUT (x)\nx, y = s((a + 1), b)\nz, v = s(e, u)\nu = (e < 5)")
        told = dict(clocks(book, "m")[1])
        self.assertEqual([told[x] for x in ("a", "b", "x", "y", (0, ()), (0, (0,)), (0, (0, 1)), (0, (1,)))], [
            (0, ()), (0, ()), (0, (("b", True),)), (0, (("b", False),)), (0, ()), (0, ()), (0, ()), (0, ())])
        self.assertEqual([told[x] for x in ("e", "u", "z", "v", (1, ()))],
                         [(1, ()), (1, ()), (1, (("u", True),)), (1, (("u", False),)), (1, ())])

    def test_calls_whose_ins_hang_on_ins(self):
        book = book_of(ASKS, "MODULE m (a, b) OUT (x)\nx = k(a, (b + 1))")
        told = dict(clocks(book, "m")[1])
        self.assertEqual([told[x] for x in ("a", "b", "x", (0, (1,)), (0, (1, 1)))],
                         [(0, ()), (0, (("a", True),)), (0, ()), (0, (("a", True),)), (0, (("a", True),))])

    def test_calls_whose_outs_hang_on_outs(self):
        book = book_of(OUTS, "MODULE m (a, b, c) OUT (y)\ny, e = o((a WHEN c), (b WHEN c))")
        told = dict(clocks(book, "m")[1])
        self.assertEqual(told["e"][1], (("c", True),))
        self.assertEqual(told["y"][1], (("c", True), ("e", True)))
        self.assertEqual(told[(0, ())][1], (("c", True),))

    def test_calls_whose_ins_and_outs_hang_on_several(self):
        deep = "MODULE k (c, d, e) OUT (x, y)\nx = (MERGE c (MERGE d e 0) 0)\ny = ((1 WHEN c) UNLESS d)"
        book = book_of(deep, "MODULE m (a, b, f) OUT (z)\nz, v = k(a, b, (f + 1))")
        told = dict(clocks(book, "m")[1])
        self.assertEqual([told[x][1] for x in ("a", "b", "f", "z", "v", (0, ()), (0, (2,)))], [
            (), (("a", True),), (("a", True), ("b", True)), (), (("a", True), ("b", False)), (),
            (("a", True), ("b", True))])
        # Each in on which another one hangs must be a flow, be it last in some conditions or ahead.
        for parts, told in (("TRUE, b, 1", ("plain", 0, 0)), ("a, (NOT b), 1", ("plain", 0, 1))):
            book = book_of(deep, f"MODULE m (a, b, f) OUT (z)\nz, v = k({parts})")
            self.assertEqual(clocks(book, "m"), told)

    def test_a_base_without_parts(self):
        book = book_of("MODULE n () OUT (x)\nx = 1", "MODULE m () OUT (y)\ny = n()\nz = n()\nv = (y + 1)")
        told = dict(clocks(book, "m")[1])
        self.assertEqual([told[x][0] for x in ("y", "z", "v", (0, ()), (1, ()))], [0, 1, 0, 0, 1])

    def test_no_name_goes_ahead(self):
        for name in ("", "m", "S"):
            with self.assertRaises(NoName) as caught:
                clocks(book_of(SPLIT), name)
            self.assertEqual(caught.exception.name, name)
        self.assertEqual(clocks(name="s", book=book_of(SPLIT)), clocks(book_of(SPLIT), "s"))

    def test_by_a_slow_way(self):
        found = {}
        for seed in range(120):
            book = Maker(seed, words=CLOCKED[seed % 4], plain=(8, 20, 40)[seed % 3]).book(3, rows=2 + seed % 2, deep=3)
            for module in book.modules():
                told, slow = clocks(book, module[0]), slow_clocks(book, module[0])
                self.assertEqual(told[0], slow[0])
                if told[0] != "clash":
                    self.assertEqual(repr(told), repr(slow))
                else:
                    self.assertTrue(lines_right(told[1], clock_rules(book, module[0])))
                    found[told[1][-1][0]] = True
                found[told[0]] = True
        self.assertEqual(sorted(found), ["clash", "clocks", "plain", "two", "within"])

    def test_told_soon(self):
        book = twelve_modules()
        begin = time.monotonic()
        told = dict(clocks(book, "ml")[1])
        self.assertEqual([told[x][1] for x in "acxy"], [(), (), (("c", True),), (("c", False),)])
        self.assertLess(time.monotonic() - begin, 5)


class Inner(unittest.TestCase):
    def test_inner(self):
        top = "MODULE m (a, c) OUT (x)\nx = 1\ny = {}\nz = {}\nv = (a + (a WHEN c))"
        calls = {"r": "r(a)", "w": "w(a, c)", "g": "g(a)"}
        fine = "MODULE g (a) OUT (x)\nx = a"
        for one, other, told in (("r", "w", "r"), ("w", "r", "w"), ("g", "r", "r"), ("w", "g", "w"), ("r", "r", "r")):
            book = book_of(CLASHING, RINGED, fine, top.format(calls[one], calls[other]))
            self.assertEqual(clocks(book, "m"), ("inner", told))

    def test_inner_of_what_has_no_kinds(self):
        book = book_of("MODULE n (a) OUT (x)\nx = (a + (NOT a))", "MODULE m (a) OUT (x)\nx = n(a)")
        self.assertEqual(clocks(book, "n")[0], "clocks")
        self.assertEqual(clocks(book, "m"), ("inner", "n"))

    def test_inner_of_one_that_calls_such_a_one(self):
        book = book_of(RINGED, "MODULE g (a) OUT (x)\nx = r(a)", "MODULE m (a) OUT (x)\nx = g(a)")
        self.assertEqual(clocks(book, "m"), ("inner", "g"))

    def test_own_kinds_are_not_asked(self):
        book = book_of("MODULE m (a, c) OUT (x)\nx = (a + (NOT (a AND TRUE)))")
        self.assertEqual(clocks(book, "m")[0], "clocks")

    def test_inner_goes_ahead_of_plain(self):
        book = book_of(ASKS, RINGED, "MODULE m (a) OUT (x)\nx = k((a < 2), a)\ny = r(a)")
        self.assertEqual(clocks(book, "m"), ("inner", "r"))


class Plain(unittest.TestCase):
    def plain(self, rows, told):
        book = book_of(SPLIT, ASKS, OUTS, "MODULE t (a, c, d) OUT (x)\nx = (MERGE d a (MERGE c (7 WHEN c) 8))",
                       "MODULE m (a, b, c) OUT (x)\n" + rows)
        found = clocks(book, "m")
        self.assertEqual(found, told)
        if told[0] == "plain":
            self.assertEqual([type(number) for number in found[1:]], [int, int])

    def test_the_least_row_and_part(self):
        self.plain("x = k((a < 2), b)", ("plain", 0, 0))
        self.plain("x = k(TRUE, b)", ("plain", 0, 0))
        self.plain("x, y = s(a, (NOT c))", ("plain", 0, 1))
        self.plain("x = 1\ny = k(b, 7)\nz, v = s(a, (0 THEN c))\nu = k((b AND c), 5)", ("plain", 2, 1))
        book = book_of("MODULE e (a, b, c, d) OUT (x)\nx = (MERGE c a (0 UNLESS c))\ny = (MERGE d 1 b)",
                       "MODULE m (a) OUT (x)\nx = e(1, 2, TRUE, FALSE)")
        self.assertEqual(clocks(book, "m"), ("plain", 0, 2))

    def test_ahead_of_a_clash(self):
        self.plain("x = (a + (a WHEN c))\ny, z = s(a, TRUE)", ("plain", 1, 1))

    def test_parts_that_need_be_no_flows(self):
        book = book_of(OUTS, "MODULE m (a, c) OUT (x)\nx, y = o((a + 1), 7)")
        self.assertEqual(clocks(book, "m")[0], "clocks")


class Clashes(unittest.TestCase):
    def clash(self, kind, *texts):
        """The lines, looked at one by one."""
        book = book_of(*texts)
        word, lines = clocks(book, "m")
        self.assertEqual(word, "clash")
        self.assertTrue(lines_right(lines, clock_rules(book, "m")), lines)
        self.assertEqual(lines[-1][0], kind)
        self.assertLessEqual(len(lines), 2001)
        self.by_form(book.module("m"), lines)
        return lines

    def by_form(self, module, lines):
        spots = flows(module) + places(module)
        for at, (fact, reason) in enumerate(lines[:-1]):
            self.assertIn(fact[0], ("same", "over"))
            self.assertIn(fact[1], spots)
            self.assertIn(fact[2], spots if fact[0] == "same" else flows(module))
            self.assertEqual([type(part) for part in fact[3:]], [bool] * (fact[0] == "over"))
            self.assertEqual([type(part) for part in reason[1:]], [int] * (1 if reason[0] in ("row", "turn") else 2))
            if reason[0] != "row":
                self.assertLess(max(reason[1:]), at)

    def test_two(self):
        self.clash("two", "MODULE m (a, c, d) OUT (x)\nx = ((a WHEN c) + (a WHEN d))")
        self.clash("two", "MODULE m (a, c) OUT (x)\nx = ((a WHEN c) + (a UNLESS c))")
        self.clash("two", "MODULE m (a, c, d) OUT (x)\nx = (MERGE c (a WHEN d) 1)")
        self.clash("two", "MODULE m (a, c) OUT (x)\nx = (MERGE c 0 (a WHEN c))")
        self.clash("two", "MODULE m (a, c, d) OUT (x)\nx = (a WHEN c)\ny = (a WHEN d)\nz = (IF v THEN x ELSE 7)\n"
                          "v = (v = u)\nu = y")

    def test_two_by_places_that_are_over_the_same(self):
        # p and q are both over c, so they are the same; r ties q to what is over d.
        lines = self.clash("two", "MODULE m (a, c, d) OUT (p)\np = (a WHEN c)\nq = (a WHEN c)\nr = (q + (a WHEN d))")
        self.assertIn("join", [reason[0] for _, reason in lines[:-1]])
        lines = self.clash("two", SPLIT, "MODULE m (a, b, c) OUT (x)\nx, y = s(a, c)\nz, v = s(b, c)\nr = (z UNLESS y)")
        self.assertEqual(lines[-1][0], "two")

    def test_within(self):
        self.clash("within", "MODULE m (a) OUT (x)\nx = (a WHEN x)")
        self.clash("within", "MODULE m (a, c) OUT (x)\nx = (a + (a WHEN c))")
        self.clash("within", "MODULE m (a, c) OUT (x)\nx = (MERGE c c 1)")
        self.clash("within", "MODULE m (a) OUT (x)\nx = (MERGE y 1 2)\ny = (MERGE x TRUE FALSE)\nz = (1 WHEN x)\n"
                             "v = (z = y)")

    def test_within_of_several(self):
        # c is over b, d over c, b over d.
        lines = self.clash("within", "MODULE m (b, c, d) OUT (x)\nx = ((1 WHEN b) = c)\ny = ((1 WHEN c) = d)\n"
                                     "z = ((1 WHEN d) = b)")
        self.assertEqual(len(lines[-1][1]), 3)

    def test_through_a_call(self):
        two = "MODULE m (a, c, d) OUT (x)\nx, y = s(a, c)\nz, v = s(a, d)\nu = (x + z)"
        self.clash("two", SPLIT, two)
        self.clash("two", SPLIT, "MODULE m (a, c) OUT (x)\nx, y = s(a, c)\nz = (x = y)")
        self.clash("two", ASKS, "MODULE m (a, c, d) OUT (x)\nx = k(c, (a WHEN d))")
        self.clash("within", SPLIT, "MODULE m (a, c) OUT (x)\nx, y = s(x, c)")
        self.clash("within", ASKS, "MODULE m (c) OUT (x)\nx = k(c, x)")
        self.clash("within", OUTS, "MODULE m (b) OUT (x)\nx, d = o(x, b)")

    def test_of_calls_a_target_alone(self):
        # The parts are over what is told at the call's base; so the out that hangs on an out is twice over.
        self.clash("two", OUTS, "MODULE m (a, b, c) OUT (x)\nx, d = o(a, b)\ny = (MERGE c x 1)")

    def test_long_ones_have_at_most_two_thousand_lines(self):
        names = ["y" + one + other for one in "abcdefgh" for other in "abcdefgh"][:57]
        rows = ["x = (p WHEN c)"]
        for one, other in zip(["x"] + names, names):
            rows.append(f"{other} = (NOT (NOT {one}))")
        head = "MODULE m (p, c, d) OUT (x)\n"
        last = names[-1]
        lines = self.clash("two", head + "\n".join(rows + [f"z = ({last} = (1 WHEN d))"]))
        self.assertGreater(len(lines), 400)
        lines = self.clash("within", head + "\n".join(rows + [f"z = ({last} = c)"]))
        self.assertGreater(len(lines), 400)

    def test_told_again_and_changed_behind(self):
        for text in ("MODULE m (a, c) OUT (x)\nx = (a + (a WHEN c))", "MODULE m (a, c) OUT (x)\nx = (a WHEN c)"):
            book = book_of(text)
            held = copy.deepcopy(clocks(book, "m"))
            told = clocks(book, "m")[1]
            if isinstance(told[-1], tuple) and told[-1][0] == "within":
                told[-1][1].clear()
            told.clear()
            self.assertEqual(clocks(book, "m"), held)


if __name__ == "__main__":
    unittest.main()
