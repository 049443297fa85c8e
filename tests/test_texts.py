"""Modules as texts (11, 12)."""

import copy
import time
import unittest
from random import Random

from clockloom.errors import NoModule, NoText, Twice
from clockloom.texts import module_text, modules_text, read_module, read_modules
from clockloom.trees import module_wrong
from tests.making import ANYTHING, Maker
from tests.prefixes import breaks_at

A = ("flow", "a")
ONE = ("num", 1)
HEAD = "MODULE m (a, b) OUT (x)"

# Each word of 7, in its order, with what is written.
WRITTEN = (
    (("num", 0), "0"), (("num", 999999999999), "999999999999"), (("truth", True), "TRUE"),
    (("truth", False), "FALSE"), (A, "a"), (("sum", A, ONE), "(a + 1)"), (("less", A, ONE), "(a - 1)"),
    (("times", A, ONE), "(a * 1)"), (("below", A, ONE), "(a < 1)"), (("same", A, ONE), "(a = 1)"),
    (("both", A, ONE), "(a AND 1)"), (("either", A, ONE), "(a OR 1)"), (("not", A), "(NOT a)"),
    (("pick", A, ONE, ("flow", "b")), "(IF a THEN 1 ELSE b)"), (("then", ("num", 50), A), "(50 THEN a)"),
    (("then", ("truth", True), ONE), "(TRUE THEN 1)"), (("then", ("truth", False), ONE), "(FALSE THEN 1)"),
    (("when", ONE, "b", True), "(1 WHEN b)"), (("when", ONE, "b", False), "(1 UNLESS b)"),
    (("merge", "b", A, ONE), "(MERGE b a 1)"), (("beats", "01", "100"), "(BEATS 01(100))"),
    (("beats", "", "1"), "(BEATS (1))"), (("beats", "0" * 60, "1" * 60), f"(BEATS {'0' * 60}({'1' * 60}))"),
    (("call", "q", []), "q()"), (("call", "q", [A]), "q(a)"),
    (("call", "q", [A, ("sum", ONE, A)]), "q(a, (1 + a))"),
    (("sum", ("not", ("times", A, A)), ("pick", A, ("then", ONE, A), A)),
     "((NOT (a * a)) + (IF a THEN (1 THEN a) ELSE a))"),
)


def of_whole(whole, targets=("x",)):
    return ("m", ("a", "b"), ("x",), [(targets, whole)])


class Written(unittest.TestCase):
    def test_every_word(self):
        for whole, text in WRITTEN:
            self.assertEqual(module_text(of_whole(whole)), f"{HEAD}\nx = {text}")
            self.assertEqual(repr(read_module(f"{HEAD}\nx = {text}")), repr(of_whole(whole)))

    def test_lines(self):
        module = ("abcdefgh", (), ("x", "y"), [(("x", "y", "z"), ("call", "q", [])), (("w",), ONE)])
        text = "MODULE abcdefgh () OUT (x, y)\nx, y, z = q()\nw = 1"
        self.assertEqual(module_text(module=module), text)
        self.assertEqual(read_module(text=text), module)

    def test_modules_with_an_empty_line_between(self):
        one, other = of_whole(ONE), ("n",) + of_whole(A)[1:]
        text = f"{HEAD}\nx = 1\n\nMODULE n (a, b) OUT (x)\nx = a"
        self.assertEqual(modules_text(modules=[one, other]), text)
        self.assertEqual(read_modules(text=text), [one, other])
        self.assertEqual(modules_text([]), "")
        self.assertEqual(read_modules(""), [])
        self.assertEqual(modules_text([one]), module_text(one))
        self.assertEqual(modules_text([one, one]), f"{HEAD}\nx = 1\n\n{HEAD}\nx = 1")

    def test_no_module(self):
        good = of_whole(ONE)
        for thing in ANYTHING + (of_whole(None), ("m", (), ("x",), [])):
            for ask in (lambda: module_text(thing), lambda: modules_text([good, thing, ("n",)])):
                with self.assertRaises(NoModule) as caught:
                    ask()
                self.assertEqual(caught.exception.wrong, module_wrong(thing))

    def test_there_and_back(self):
        for seed in range(60):
            modules = Maker(seed).modules(4, rows=5, deep=5)
            held = copy.deepcopy(modules)
            text = modules_text(modules)
            self.assertEqual(repr(read_modules(text)), repr(modules))
            self.assertEqual(modules_text(read_modules(text)), text)
            for module in modules:
                self.assertEqual(repr(read_module(module_text(module))), repr(module))
            self.assertEqual(modules, held)

    def test_what_is_read_is_new(self):
        text = f"{HEAD}\nx = q(a)"
        for ask in (lambda: read_module(text), lambda: read_modules(text)[0]):
            told = ask()
            told[3][0][1][2].clear()
            told[3].clear()
            self.assertEqual(ask(), of_whole(("call", "q", [A])))


class Refused(unittest.TestCase):
    def no_text(self, text, row, at, read=read_module, **more):
        with self.assertRaises(NoText, msg=text[:200]) as caught:
            read(text, **more)
        self.assertEqual((caught.exception.row, caught.exception.at), (row, at), text[:200])
        self.assertEqual((type(caught.exception.row), type(caught.exception.at)), (int, int))

    def no_module(self, text, wrong, read=read_module, **more):
        with self.assertRaises(NoModule) as caught:
            read(text, **more)
        self.assertEqual(caught.exception.wrong, wrong)

    def of_row(self, line, at):
        for read in (read_module, read_modules):
            self.no_text(f"{HEAD}\nx = 1\n{line}\ny = ?", 2, at, read)
            self.no_text(f"{HEAD}\n{line}", 1, at, read)

    def test_examples_of_the_document(self):
        for line, at in (("x = (a + When)", 9), ("x = (05 + a)", 6), ("x = (a THEN b)", 7), ("x = ", 4),
                         ("x = abcdefghi", 12)):
            self.of_row(line, at)
            self.assertEqual(breaks_at("row", line), at)

    def test_rows(self):
        for line, at in (
            ("x", 1), ("x ", 2), ("x =", 3), ("x=1", 1), ("x  = 1", 2), ("x = 1 ", 5), ("x = 1\r", 5), (" x = 1", 0),
            ("X = 1", 0), ("= 1", 0), ("x,y = q()", 2), ("x, = q()", 3), ("x, y", 4), ("x, y = q(a,b)", 11),
            ("x = q(a, )", 9), ("x = q( a)", 6), ("x = q (a)", 5), ("x = q(a", 7), ("x = q(", 6), ("x = q()(", 7),
            ("x = 01", 5), ("x = 1234567890123", 16), ("x = -1", 4), ("x = TRU", 7), ("x = TRUTH", 7), ("x = True", 5),
            ("x = FALSe", 8), ("x = NOT a", 4), ("x = (NOT  a)", 9), ("x = (NOTa)", 8), ("x = (a)", 6), ("x = ()", 5),
            ("x = (a+ b)", 6), ("x = (a +b)", 8), ("x = (a + b))", 11), ("x = (a + b + c)", 10), ("x = (a AN b)", 9),
            ("x = (TRUE THEN a)", None), ("x = ((1) THEN a)", 7), ("x = (q() THEN a)", 9), ("x = (1 THEN a", 13),
            ("x = ((1 + 2) THEN a)", 13), ("x = (IF a THEN b)", 16), ("x = (IF a ELSE b)", 10), ("x = (IFa", 7),
            ("x = (a WHEN 1)", 12), ("x = (a WHEN b(", 13), ("x = (a WHENEVER b)", 11), ("x = (a UNLESS TRUE)", 14),
            ("x = (a WHEN abcdefghi)", 20), ("x = (MERGE a b c)", None), ("x = (MERGE 1 b c)", 11),
            ("x = (MERGE a b)", 14), ("x = (MERGE a b c d)", 16), ("x = (BEATS ())", 12), ("x = (BEATS 1)", 12),
            ("x = (BEATS 2(1))", 11), ("x = (BEATS 1(2))", 13), ("x = (BEATS 1(1)", 15), ("x = (BEATS 1(1) )", 15),
            (f"x = (BEATS {'0' * 61}(1))", 71), (f"x = (BEATS ({'0' * 61}))", 72), ("abcdefghi = 1", 8),
            ("x, abcdefghi = q()", 11), ("x = abcdefghi()", 12), ("x = a\t", 5), ("MODULE m () OUT (x)", 0),
            ("x = ?", 4), ("", 0), ("x = (\"", 5), ("x = (1 WHEN a", 13), ("x = (99 + 00)", 11),
        ):
            self.assertEqual(breaks_at("row", line), at, line)
            if at is None:
                self.assertEqual(module_text(read_module(f"{HEAD}\n{line}\nc = 1")), f"{HEAD}\n{line}\nc = 1")
            elif line:
                self.of_row(line, at)

    def test_first_lines(self):
        for line, at in (
            ("", 0), ("MODULE", 6), ("MODULE ", 7), ("MODULE m", 8), ("module m () OUT (x)", 0), ("MODULE M () OUT (x)", 7),
            ("MODULE m  () OUT (x)", 9), ("MODULE m() OUT (x)", 8), ("MODULE m ( ) OUT (x)", 10),
            ("MODULE m (a,b) OUT (x)", 12), ("MODULE m (a, ) OUT (x)", 13), ("MODULE m (a) IN (x)", 13),
            ("MODULE m (a) OUT(x)", 16), ("MODULE m (a) OUT (x", 19), ("MODULE m (a) OUT (x) ", 20),
            ("MODULE abcdefghi () OUT (x)", 15), ("MODULE m (abcdefghi) OUT (x)", 18), ("MODULE m (1) OUT (x)", 10),
            ("MODULE m (a) OUT (x)x = 1", 20), (" MODULE m () OUT (x)", 0), ("x = 1", 0),
        ):
            self.assertEqual(breaks_at("first", line), at, line)
            self.no_text(f"{line}\nx = 1", 0, at)
            self.no_text(line, 0, at)
            if line:
                self.no_text(f"{line}\n\n{HEAD}", 0, at, read_modules)
            self.no_text(f"{HEAD}\nx = 1\n\n{line}\nx = ?", 3, at, read_modules)

    def test_outs_may_be_none_in_a_line(self):
        self.no_module("MODULE m () OUT ()\nx = 1", ("outs",))
        self.no_module("MODULE m (a, a) OUT (x)\nx = 1", ("ins",))

    def test_each_sign_exchanged_left_out_or_put_in(self):
        lines = (
            "x, yy = q(a, (NOT b), 10)", "x = (IF (a < 20) THEN (TRUE THEN a) ELSE FALSE)",
            "x = (MERGE b (a WHEN b) (0 UNLESS b))", "x = (BEATS 01(10))", "x = ((a AND b) OR (7 THEN a))",
            "x = (q() - (a * 2))",
        )
        for line in lines:
            self.spoiled("row", line, f"{HEAD}\nx = 1\n", 2)
        self.spoiled("first", "MODULE mm (a, bb) OUT (x)", "", 0)
        self.spoiled("first", "MODULE n () OUT (x, y)", f"{HEAD}\nx = 1\n\n", 3)

    def spoiled(self, kind, line, ahead, row):
        self.assertIsNone(breaks_at(kind, line))
        behind = "" if kind == "row" else "\nx = 1"
        for at in range(len(line) + 1):
            told = [line[:at]]
            for sign in "a1W (),=+0THNUx ~":
                told += [line[:at] + sign + line[at:], line[:at] + sign + line[at + 1:]]
            told.append(line[:at] + line[at + 1:])
            for text in told:
                breaks = breaks_at(kind, text)
                if breaks is not None and text:
                    self.no_text(ahead + text + behind, row, breaks, read_modules)
                elif breaks is None:
                    try:
                        read_modules(ahead + text + behind)
                    except (NoModule, Twice):
                        pass

    def test_random_lines(self):
        chance = Random(3)
        tokens = ["x", "q", "(", ")", ", ", " ", "= ", "+ ", "1", "0", "TRUE", "(NOT ", "(IF ", " THEN ", " ELSE ",
                  " WHEN ", "(BEATS ", "(MERGE a ", "a", "AND "]
        for _ in range(3000):
            line = "x = " + "".join(chance.choice(tokens) for _ in range(chance.randrange(1, 9)))
            breaks = breaks_at("row", line)
            if breaks is not None:
                self.no_text(f"{HEAD}\n{line}", 1, breaks)
            else:
                try:
                    read_module(f"{HEAD}\n{line}")
                except NoModule:
                    pass

    def test_lengths_of_names_numbers_and_signs(self):
        read_module(f"{HEAD}\nx = 1\nabcdefgh = 999999999999\ny = (BEATS {'0' * 60}({'1' * 60}))\nz = abcdefgh")
        self.of_row("y = 1000000000000", 16)
        self.of_row("y = 0000", 5)
        self.of_row("y = (00 THEN a)", 6)
        self.assertEqual(read_module(f"{HEAD}\nx = (BEATS {'0' * 60}(1))")[3][0][1], ("beats", "0" * 60, "1"))

    def test_open_brackets(self):
        for begin, end in (("(NOT ", ")"), ("(1 THEN ", ")"), ("(a + ", ")"), ("(", " - a)"), ("q(", ")"),
                           ("q(a, ", ")"), ("(", " WHEN b)"), ("(IF a THEN b ELSE ", ")"), ("(MERGE b ", " a)")):
            whole = begin * 100 + "a" + end * 100
            read_wrong = ("size",)
            self.no_module(f"{HEAD}\nx = {whole}", read_wrong)
            at = 4 + len(begin) * 100 + begin.index("(")
            more = begin * 101 + "a" + end * 101
            self.of_row(f"x = {more}", at)
            self.of_row(f"x = {begin * 1000}", at)
            self.no_module(f"{HEAD}\nx = {begin * 50}{begin * 49}(BEATS 1(1)){end * 99}", read_wrong)
            self.of_row(f"x = {begin * 100}(BEATS 1(1)){end * 100}", 4 + len(begin) * 100)
            self.of_row(f"x = {begin * 100}q()", 5 + len(begin) * 100)
            self.of_row(f"x = {begin * 100}(", 4 + len(begin) * 100)
            self.of_row(f"x = (({begin * 9}a{end * 9} + {begin * 9}a{end * 9}) = {begin * 100}", 4 + 2 + len(
                f"{begin * 9}a{end * 9} + {begin * 9}a{end * 9}) = ") + len(begin) * 99 + begin.index("("))
        # Those that are closed again are not open.
        self.no_module(f"{HEAD}\nx = q({', '.join(['(NOT a)'] * 200)})", ("place", 0, ()))
        many = "(" * 99 + "(NOT a)" + " + (NOT a))" * 99
        self.no_module(f"{HEAD}\nx = {many}", ("size",))

    def test_most_rows(self):
        def text(many, last=""):
            return HEAD + "".join(f"\n{x} = 1" for x in ["x"] + ["y" + "abcdefghij"[k // 9] + "abcdefghi"[k % 9]
                                                                for k in range(many - 1)]) + last
        for read in (read_module, read_modules):
            self.assertIsNotNone(read(text(60)))
            self.no_text(text(61), 61, 0, read)
            self.no_text(text(60, "\n?"), 61, 0, read)
            self.no_text(text(60, "\nz = ?"), 61, 0, read)
            self.assertIsNotNone(read(text(3), most=3))
            self.assertIsNotNone(read(text(3), most=10 ** 29))
            self.no_text(text(3), 3, 0, read, most=2)
            self.no_text(text(3, "\n?"), 3, 0, read, most=2)
            self.no_text(text(1, "\n?"), 2, 0, read, most=2)
            self.no_text(text(1), 1, 0, read, most=0)
            self.no_text(text(1), 1, 0, read, most=-5)
            self.no_module(text(61), ("many",), read, most=61)
            with self.assertRaises(TypeError):
                read(text(3), 3)
        # Of each module by itself; an empty line that ends one is no row.
        both = text(3) + "\n\n" + text(2).replace(" m ", " n ")
        self.assertEqual(len(read_modules(both, most=3)), 2)
        self.no_text(text(3) + "\n\n" + text(4), 9, 0, read_modules, most=3)
        self.no_text(text(3) + "\n", 4, 0, read_module, most=3)
        self.no_text(HEAD + "\nx = 1\ny = ?", 1, 0, read_module, most=0)

    def test_all_lines_are_looked_at_ahead_of_what_is_no_module(self):
        self.no_text(f"{HEAD}\nx = zz\ny = (", 2, 5)
        self.no_text(f"{HEAD}\nx = zz\n\nMODULE n () OUT (y)\ny = ()", 4, 5, read_modules)
        self.no_module(f"{HEAD}\nx = zz\n\nMODULE n () OUT ()", ("flow", 0, ()), read_modules)
        self.no_module(f"{HEAD}\nx = 1\n\nMODULE n () OUT ()", ("outs",), read_modules)
        self.no_module(f"{HEAD}\nx = 1\n\n{HEAD}\n\n{HEAD}\nx = zz", ("out", "x"), read_modules)

    def test_empty_lines(self):
        good = f"{HEAD}\nx = 1"
        self.no_text("", 0, 0)
        for read in (read_module, read_modules):
            self.no_text("\n" + good, 0, 0, read)
            self.no_text("\n", 0, 0, read)
            self.no_text("\n\n", 0, 0, read)
        self.no_text(good + "\n", 2, 0)
        self.no_text(good + "\n\n", 2, 0)
        self.no_text(good + "\n\n" + good, 2, 0)
        self.no_text(good + "\n", 3, 0, read_modules)
        self.no_text(good + "\n\n", 3, 0, read_modules)
        self.no_text(good + "\n\n\n" + good, 3, 0, read_modules)
        self.no_text(HEAD + "\n", 2, 0, read_modules)
        self.no_text(good + "\n\nx = 1", 3, 0, read_modules)
        self.no_text(good + "\n \n" + good, 2, 0, read_modules)

    def test_no_module_of_what_is_written_so(self):
        for whole, wrong in (
            ("zz", ("flow", 0, ())), ("(NOT q())", ("call", 0, (0,))), ("q(a, a, a, a, a, a, a, a, a)", ("place", 0, ())),
            ("(NOT (NOT (NOT (NOT (NOT (NOT (NOT (NOT a))))))))", ("size",)),
        ):
            for read in (read_module, read_modules):
                self.no_module(f"{HEAD}\nx = {whole}", wrong, read)
        self.no_module(HEAD, ("out", "x"))
        self.no_module(f"{HEAD}\nx, y = 1", ("call", 0, ()))
        self.no_module(f"{HEAD}\nx = 1\nx = 2", ("told", "x"))
        self.no_module("MODULE m (a, b, c, d, e, f, g, h, i) OUT (x)\nx = 1", ("ins",))

    def test_twice(self):
        one = f"{HEAD}\nx = 1"
        other, third = one.replace(" m ", " n "), one.replace(" m ", " o ")
        for texts, name in (([one, one], "m"), ([one, other, third, third, one], "o"), ([one, other, one, other], "m"),
                            ([one, other, other, one], "n")):
            with self.assertRaises(Twice) as caught:
                read_modules("\n\n".join(texts))
            self.assertEqual(caught.exception.name, name)
        self.no_module("\n\n".join([one, one, HEAD.replace(" m ", " p ")]), ("out", "x"), read_modules)

    def test_more_modules_than_a_book_has(self):
        names = ["a" + x for x in "abcdefghijklmnopqrstuvwxyz"]
        text = "\n\n".join(f"MODULE {name} () OUT (x)\nx = 1" for name in names)
        self.assertEqual([module[0] for module in read_modules(text)], names)

    def test_long_texts_are_read_soon(self):
        begin = time.monotonic()
        self.no_text(HEAD + "\nx = (a + b)" * 20000 + "\n?", 20001, 0, most=30000)
        self.no_module(f"{HEAD}\nx = q({', '.join(['(NOT a)'] * 50000)})", ("place", 0, ()))
        self.no_text(f"{HEAD}\nx = {'(' * 300000}", 1, 104)
        self.assertLess(time.monotonic() - begin, 20)


if __name__ == "__main__":
    unittest.main()
