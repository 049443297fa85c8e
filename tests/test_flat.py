"""Flat modules (24, 25)."""

import copy
import time
import unittest

from clockloom.books import Book
from clockloom.errors import NoFace, NoFlow, NoName, NoWay, TooLong
from clockloom.flat import MOST_FLAT, flat, flat_name, told_flat
from clockloom.teller import Run
from clockloom.trees import flows
from tests.growing import Grower, history
from tests.making import ANYTHING, SPLIT, book_of
from tests.slowflat import led_to, name_of, slow_flat
from tests.slowteller import SlowRun

COUNT = "MODULE n (a) OUT (x)\nx = (0 THEN (x + a))"
ASKS = "MODULE k (c, d) OUT (x)\nx = (MERGE c d 0)"


class Flat(unittest.TestCase):
    def rows(self, *texts):
        return flat(book_of(*texts), "m")[2]

    def test_a_whole_one(self):
        top = "MODULE m (a) OUT (z)\nc = (BEATS 1(10))\nx, y = s((0 THEN (a * 2)), c)\nz = (MERGE c x y)"
        self.assertEqual(flat(book_of(SPLIT.replace("(a WHEN c)", "((a + 1) WHEN c)"), top), "m"), (
            [("a", "number", ())], [("z", "z")], [
                ("c", ("beats", "1", "10"), ()), ("1-0-0", ("times", ("flow", "a"), ("num", 2)), ()),
                ("1.a", ("then", ("num", 0), ("flow", "1-0-0")), ()),
                ("1.0-0", ("sum", ("flow", "1.a"), ("num", 1)), ()),
                ("1.x", ("when", ("flow", "1.0-0"), "c", True), (("c", True),)),
                ("1.y", ("when", ("flow", "1.a"), "c", False), (("c", False),)),
                ("z", ("merge", "c", ("flow", "1.x"), ("flow", "1.y")), ()),
            ]))

    def test_ins_and_outs(self):
        book = book_of("MODULE m (d, c, e) OUT (z, y)\nz = (MERGE c (MERGE d e 0) 1)\ny = (z = 1)", SPLIT)
        ins, outs, _ = flat(book, "m")
        self.assertEqual(ins, [("d", "truth", (("c", True),)), ("c", "truth", ()),
                               ("e", "number", (("c", True), ("d", True)))])
        self.assertEqual(outs, [("z", "z"), ("y", "y")])
        self.assertEqual(flat(book, "s")[0], [("a", "number", ()), ("c", "truth", ())])
        self.assertEqual(flat(book_of("MODULE m () OUT (x)\nx = 1"), "m"), ([], [("x", "x")], [("x", ("num", 1), ())]))

    def test_outs_that_are_targets_of_calls(self):
        texts = (COUNT, "MODULE g (a) OUT (y)\ny = n(a)", "MODULE m (a) OUT (z)\nz = g(a)")
        self.assertEqual(flat(book_of(*texts), "m"), ([("a", "number", ())], [("z", "0.0.x")], [
            ("0.0.x", ("then", ("num", 0), ("flow", "0.0.0-0")), ()), ("0.0.0-0", ("sum", ("flow", "0.0.x"), ("flow", "a")), ()),
        ]))

    def test_each_word(self):
        rows = dict((x, deed) for x, deed, _ in self.rows(
            "MODULE m (a, b, c) OUT (z)\nz = ((a + 1) - (a * b))\ny = ((a < b) = (c AND TRUE))\n"
            "x = (NOT (c OR y))\nw = (IF c THEN a ELSE (3 THEN z))\nv = a\nu = 5\nt = FALSE\ns = (BEATS 1(0))"))
        self.assertEqual(rows, {
            "0-0": ("sum", ("flow", "a"), ("num", 1)), "0-1": ("times", ("flow", "a"), ("flow", "b")),
            "z": ("less", ("flow", "0-0"), ("flow", "0-1")), "1-0": ("below", ("flow", "a"), ("flow", "b")),
            "1-1": ("both", ("flow", "c"), ("truth", True)), "y": ("same", ("flow", "1-0"), ("flow", "1-1")),
            "2-0": ("either", ("flow", "c"), ("flow", "y")), "x": ("not", ("flow", "2-0")),
            "3-2": ("then", ("num", 3), ("flow", "z")), "w": ("pick", ("flow", "c"), ("flow", "a"), ("flow", "3-2")),
            "v": ("flow", "a"), "u": ("num", 5), "t": ("truth", False), "s": ("beats", "1", "0"),
        })
        rows = self.rows("MODULE m (a, c) OUT (z)\nz = (MERGE c (a WHEN c) ((0 UNLESS c) + (9 UNLESS c)))")
        self.assertEqual(rows, [
            ("0-0", ("when", ("flow", "a"), "c", True), (("c", True),)),
            ("0-1-0", ("when", ("num", 0), "c", False), (("c", False),)),
            ("0-1-1", ("when", ("num", 9), "c", False), (("c", False),)),
            ("0-1", ("sum", ("flow", "0-1-0"), ("flow", "0-1-1")), (("c", False),)),
            ("z", ("merge", "c", ("flow", "0-0"), ("flow", "0-1")), ()),
        ])

    def test_parts_of_calls(self):
        rows = self.rows(SPLIT, "MODULE m (a) OUT (b)\nb = (a < 3)\nx, y = s(7, b)\nz, v = s(TRUE, b)\nu, t = s(a, b)\n"
                                "r, q = s((a + (a - 1)), b)")
        self.assertEqual([(x, deed) for x, deed, _ in rows if x.endswith((".a", ".c")) or "-" in x], [
            ("1.a", ("num", 7)), ("2.a", ("truth", True)), ("4-0-1", ("less", ("flow", "a"), ("num", 1))),
            ("4.a", ("sum", ("flow", "a"), ("flow", "4-0-1"))),
        ])
        self.assertIn(("3.x", ("when", ("flow", "a"), "b", True), (("b", True),)), rows)

    def test_conditions_through_calls(self):
        texts = ("MODULE g (a, b) OUT (x, d)\nd = (a < b)\nx = (a WHEN d)",
                 "MODULE h (a, c) OUT (f)\ny, e = g((a WHEN c), (5 WHEN c))\nf = (a = 2)",
                 "MODULE m (a, c) OUT (f)\nf = h(p, q)\np = (a UNLESS c)\nq = (p < 3)")
        rows = dict((x, conditions) for x, _, conditions in self.rows(*texts))
        off = (("c", False),)
        self.assertEqual(rows, {
            "p": off, "q": off, "0.0.a": off + (("q", True),), "0.0.b": off + (("q", True),),
            "0.0.d": off + (("q", True),), "0.0.x": off + (("q", True), ("0.0.d", True)), "0.f": off,
        })
        texts = (ASKS, "MODULE m (a, e) OUT (y)\nx = k(z, (4 WHEN z))\nz = (a WHEN e)\ny = (NOT a)")
        rows = self.rows(*texts)
        at = (("e", True),)
        self.assertEqual(rows, [
            ("z", ("when", ("flow", "a"), "e", True), at),
            ("0.d", ("when", ("num", 4), "z", True), at + (("z", True),)),
            ("0.x", ("merge", "z", ("flow", "0.d"), ("num", 0)), at),
            ("y", ("not", ("flow", "a")), ()),
        ])

    def test_of_those_that_may_come_next_the_first_made_comes(self):
        rows = self.rows(COUNT, "MODULE m (a) OUT (x)\nx = (z + (v + 1))\nz = n((y * 2))\ny = (a - 1)\nv = (0 THEN x)")
        self.assertEqual([x for x, _, _ in rows], ["1.x", "y", "1.a", "1.0-0", "v", "0-1", "x"])

    def test_a_then_is_not_behind_its_part(self):
        rows = self.rows("MODULE m (a) OUT (x)\nx = (0 THEN (y + a))\ny = (1 THEN x)")
        self.assertEqual([x for x, _, _ in rows], ["x", "y", "0-0"])

    def test_by_a_slow_way(self):
        for seed in range(60):
            book = Grower(seed, rows=3 + seed % 4, deep=2 + seed % 4).book(1 + seed % 4)
            name = book.modules()[-1][0]
            self.assertEqual(repr(flat(book, name)), repr(slow_flat(book, name)))

    def test_refused(self):
        with self.assertRaises(NoName):
            flat(book_of(COUNT), "m")
        with self.assertRaises(NoFace) as caught:
            flat(book=book_of("MODULE m (a) OUT (x)\nx = (x + a)"), name="m")
        self.assertEqual(caught.exception.paper, ("ring", ["x"]))

    def test_told_anew(self):
        book = book_of(COUNT)
        held = copy.deepcopy(flat(book, "n"))
        Run(book, "n")
        for some in flat(book, "n"):
            some.clear()
        self.assertEqual(flat(book, "n"), held)


class Long(unittest.TestCase):
    def book(self, rows):
        """A book whose module m has a flat one of so many rows: 33 calls of 59 rows make 1,947."""
        names = [f"y{one}{other}" for one in "abcdef" for other in "abcdefghij"]
        inner = "MODULE n () OUT (yaa)\n" + "\n".join(f"{x} = 1" for x in names[:59])
        threes = [f"{x} = ((1 + 1) + (1 + 1))" for x in names[33:33 + (rows - 1947) // 3]]
        ones = [f"z{y} = 1" for y in "ab"[:(rows - 1947) % 3]]
        calls = [f"{x} = n()" for x in names[:33]]
        return book_of(inner, "MODULE m () OUT (yaa)\n" + "\n".join(calls + threes + ones))

    def test_two_thousand_rows_and_one_more(self):
        self.assertEqual(MOST_FLAT, 2000)
        self.assertEqual(len(flat(self.book(2000), "m")[2]), 2000)
        for rows in (2001, 2002):
            with self.assertRaises(TooLong):
                flat(self.book(rows), "m")

    def deep_book(self, rows):
        """A book of calls in calls, of ins and calls with conditions, whose module m has a flat one of so many rows."""
        texts = [
            "MODULE ma (a, c) OUT (x, y)\ny = (IF (x < 3) THEN s ELSE (x * s))\nx = (MERGE c a (s UNLESS c))\n"
            "s = (0 THEN (s + 1))"
        ]
        for name, below in zip("bcdefg", "abcdef"):
            texts.append(
                f"MODULE m{name} (a, c) OUT (x, y)\nx = (p + r)\np, q = m{below}((u WHEN f), f)\n"
                f"r, y = m{below}((q WHEN g), g)\nu = (MERGE c (a * 2) ((0 THEN q) UNLESS c))\nf = (u < 5)\ng = (NOT f)"
            )
        own = [
            "x = (x{} + (MERGE b xb (1 UNLESS b)))", "xb, yb = mf(((u WHEN b) WHEN k), k)", "k = (h WHEN b)",
            "xc, yc = mg((yd WHEN h), h)", "xd, yd = me((u WHEN h), h)", "u = (a + (0 THEN yc))",
            "h = (BEATS 01(110))", "xe, ye = md((ye{} WHEN h), h)", "yea = (0 THEN ye)", "xf, yf = mc(((a * yea) WHEN h), h)",
        ]
        fixed = "MODULE m (a, b) OUT (x, ye)\n" + "\n".join(own).format("e", "a")
        lacking = rows - len(flat(book_of(*texts, fixed), "m")[2])
        # Each of these asks for the next one, so all wait for the last one.
        names = [f"z{one}{other}" for one in "abc" for other in "abcdefghij"]
        ones = [f"{x} = ({y} + (1 + a))" for x, y in zip(names, names[1:])][:lacking // 2]
        odd = ["yz = h"] if lacking % 2 else []
        last = f"{names[len(ones)]} = (a * 2)"
        ones[-1] = ones[-1].replace("(1 + a)", "1")
        return book_of(*texts, "\n".join([fixed] + ones + odd + [last]))

    def test_calls_in_calls_by_a_slow_way(self):
        for rows in (MOST_FLAT - 1, MOST_FLAT):
            book = self.deep_book(rows)
            told = flat(book, "m")
            self.assertEqual(len(told[2]), rows)
            self.assertEqual(repr(told), repr(slow_flat(book, "m")))
        book = self.deep_book(MOST_FLAT + 1)
        self.assertEqual(len(slow_flat(book, "m")[2]), MOST_FLAT + 1)
        for _ in range(2):
            with self.assertRaises(TooLong):
                flat(book, "m")
        for name in ("ma", "mb", "mc", "me"):
            self.assertEqual(repr(flat(book, name)), repr(slow_flat(book, name)))

    def test_far_too_many(self):
        texts = ["MODULE ma (a) OUT (x)\nx = (a + 1)"]
        for name, below in zip("bcdefghijkl", "abcdefghijk"):
            rows = "\n".join(f"x{y} = m{below}(a)" for y in "abcdefghijklmnopqrstuvwxyz")
            texts.append(f"MODULE m{name} (a) OUT (xa)\n{rows}")
        book = book_of(*texts)
        begin = time.monotonic()
        with self.assertRaises(TooLong):
            flat(book, "ml")
        self.assertEqual(len(flat(book, "mc")[2]), 26 * 26)
        self.assertEqual(flat_name(book, "ml", (25,) * 11, "x"), "25." * 11 + "x")
        self.assertEqual(flat_name(book, "ml", (25,) * 11, "a"), "a")
        self.assertLess(time.monotonic() - begin, 5)

    def test_no_face_goes_ahead(self):
        text = "MODULE m (a) OUT (x)\nx = (x + a)\n" + "\n".join(f"y{y} = n()" for y in "abcdefghijklmnopqrstuvwxyz")
        inner = "MODULE n () OUT (x)\nx = 1\n" + "\n".join(f"y{y} = o()" for y in "abcdefghijklmnopqrstuvwxyz")
        deep = "MODULE o () OUT (x)\nx = 1\ny = 1\nz = ((1 + 2) + 3)"
        with self.assertRaises(NoFace):
            flat(book_of(text, inner, deep), "m")
        with self.assertRaises(TooLong):
            flat(book_of(text.replace("(x + a)", "(1 + a)"), inner, deep), "m")

    def test_told_soon(self):
        book = self.book(2000)
        begin = time.monotonic()
        self.assertEqual(told_flat(flat(book, "m"), [{}] * 300), [{"yaa": 1}] * 300)
        self.assertLess(time.monotonic() - begin, 10)


class Told(unittest.TestCase):
    def test_as_a_run_tells(self):
        for seed in range(60):
            book = Book(Grower(seed, rows=4 + seed % 4, deep=4).book(1 + seed % 4).modules(), measure=(2, 7, 10 ** 12)[seed % 3])
            name = book.modules()[-1][0]
            beats = history(seed, book, name, 10)
            slow = SlowRun(book, name)
            told = told_flat(flat(book, name), beats, measure=book.measure())
            expected = [slow.feed(beat) for beat in beats]
            self.assertEqual(repr(told), repr(expected))
            run = Run(book, name)
            self.assertEqual(repr(told), repr([run.feed(beat) for beat in beats]))

    def test_by_hand(self):
        told = flat(book_of(SPLIT.replace("(a WHEN c)", "((a + 1) WHEN c)")), "s")
        beats = [{"a": 2 ** 31 - 2, "c": True}, {"c": False, "a": 7}]
        self.assertEqual(told_flat(told, beats), [{"x": 0, "y": None}, {"x": None, "y": 7}])
        self.assertEqual(told_flat(beats=beats[1:], flat=told, measure=10), [{"x": None, "y": 7}])
        self.assertEqual(told_flat(told, []), [])
        self.assertEqual(list(told_flat(told, beats)[0]), ["x", "y"])

    def test_of_nums_by_the_measure(self):
        told = flat(book_of("MODULE m () OUT (x, y)\nx = 123\ny = ((45 THEN 67) - 9)"), "m")
        self.assertEqual(told_flat(told, [{}, {}], measure=10), [{"x": 3, "y": 6}, {"x": 3, "y": 8}])


class Names(unittest.TestCase):
    TEXTS = (COUNT, "MODULE g (a, b) OUT (y, z)\ny = n(a)\nz = n((a + b))", "MODULE m (a) OUT (x)\nx, y = g(a, (a + 1))\n"
             "v = n(x)")

    def named(self, way, x):
        return flat_name(book_of(*self.TEXTS), "m", way, x)

    def test_names(self):
        for way, x, told in (
            ((), "a", "a"), ((), "x", "0.0.x"), ((), "y", "0.1.x"), ((), "v", "1.x"), ((0,), "a", "a"), ((0,), "b", "0.b"),
            ((0,), "y", "0.0.x"), ((0,), "z", "0.1.x"), ((0, 0), "a", "a"), ((0, 1), "a", "0.1.a"), ((0, 0), "x", "0.0.x"),
            ((1,), "a", "0.0.x"), ((1,), "x", "1.x"),
        ):
            self.assertEqual(self.named(way, x), told, (way, x))
        self.assertEqual(flat_name(x="b", way=(0,), name="m", book=book_of(*self.TEXTS)), "0.b")

    def test_by_a_slow_way(self):
        for seed in range(30):
            book = Grower(seed, rows=4, deep=3, calls=0.6).book(4)
            name = book.modules()[-1][0]
            left = [()]
            while left:
                way = left.pop()
                module = led_to(book, name, way)
                for x in flows(module):
                    self.assertEqual(flat_name(book, name, way, x), name_of(book, name, way, x))
                left += [way + (k,) for k, (_, e) in enumerate(module[3]) if e[0] == "call"]

    def test_ways(self):
        for way in ((2,), (-1,), (0, 2), (0, 0, 0), (1, 0), (False,), (0, True), [0], "0", 0, None, ("0",), ((0,),), (None,),
                    (0, [1]), [], (10 ** 29,)):
            with self.assertRaises(NoWay):
                self.named(way, "zz")
        for thing in ANYTHING:
            if thing not in ((), (0,)) or isinstance(thing, bool):
                with self.assertRaises(NoWay):
                    self.named(thing, "a")

    def test_flows(self):
        for way, x in (((), "b"), ((0,), "x"), ((0, 0), "y"), ((), ""), ((), "0.b"), ((1,), "v"), ((), "m")):
            with self.assertRaises(NoFlow) as caught:
                self.named(way, x)
            self.assertEqual(caught.exception.name, x)

    def test_the_order_of_refusals(self):
        ringed = "MODULE r (a) OUT (x)\nx = (x + a)"
        with self.assertRaises(NoName):
            flat_name(book_of(ringed), "m", None, "z")
        with self.assertRaises(NoFace):
            flat_name(book_of(ringed), "r", None, "z")
        with self.assertRaises(NoWay):
            self.named((5,), "zz")


if __name__ == "__main__":
    unittest.main()
