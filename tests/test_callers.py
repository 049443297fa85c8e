"""Callers that show two outs to be of unlike parts (32)."""

import time
import unittest
from itertools import permutations

from clockloom.books import Book, book_wrong
from clockloom.callers import caller_for, caller_judged
from clockloom.errors import NoFace, NoFlow, NoName, TooLong
from clockloom.faces import face
from clockloom.parts import parts
from clockloom.texts import read_module
from clockloom.wants import order
from tests.growing import Grower
from tests.making import ANYTHING, SPLIT, book_of, twelve_modules
from tests.oracles import slow_clocks, slow_face, slow_wants, wanted_at_last

CROSS = "MODULE k (a, b) OUT (x, y)\nx = (b + 1)\ny = (NOT a)"
LATE = "MODULE l (a, b) OUT (x, y)\nx = (0 THEN a)\ny = (b + 1)\nz = (a + b)"
# Conditions on ins and on outs, one within the other; x and w hang on what y doesn't want.
DEEP = ("MODULE d (a, c, e, f) OUT (x, y, w, v)\nx = ((MERGE c (MERGE e f 1) 2) + a)\ny = (BEATS (10))\n"
        "w = ((9 WHEN y) UNLESS v)\nv = ((BEATS 1(01)) WHEN y)")
LOTS = "MODULE o (a, b, c) OUT (x, y, z)\nx = a\ny = (IF c THEN b ELSE b)\nz = (b = b)"


def slow_ring(book, name, one, other, caller):
    """Whether a caller has a ring where two outs are put as one, by slow wants with a face changed."""
    kinds, clocks, wants = slow_face(book, name)
    ins, outs = book.module(name)[1:3]
    both = set(wants[outs.index(one)]) | set(wants[outs.index(other)])
    table = dict(slow_clocks(book, caller[0])[1])
    made = slow_wants(book, caller[0], table.items())
    for targets, e in caller[3]:
        if e[0] == "call" and e[1] == name:
            for out in (one, other):
                parts_wanted = [part for x, part in zip(ins, e[2]) if x in both]
                made[targets[outs.index(out)]] |= {y for part in parts_wanted for y in flows_read(part)}
    at_last = wanted_at_last(made)
    return any(x in at_last[x] for x in at_last)


def flows_read(part):
    """The flows in a part of a call that is a flow, or has no "then"."""
    if part[0] == "flow":
        return {part[1]}
    told = {part[2]} if part[0] == "when" else {part[1]} if part[0] == "merge" else set()
    return told.union(*[flows_read(e) for e in part[1:] if isinstance(e, tuple)])


class For(unittest.TestCase):
    def all_of(self, book, name):
        """Looks at the callers for each two outs; tells for how many there is one."""
        many = 0
        part_of = {x: k for k, (outs, _) in enumerate(parts(book, name)) for x in outs}
        for one in part_of:
            for other in part_of:
                made = caller_for(book, name, one, other)
                self.assertEqual(repr(made), repr(caller_for(book, name, one, other)))
                if part_of[one] == part_of[other]:
                    self.assertIsNone(made)
                    continue
                many += 1
                self.assertIsNone(caller_judged(book, name, one, other, made))
                # By hand: a module of a new name, one call, a face, a ring with the two put as one.
                self.assertIsNone(book_wrong(book.modules() + [made]))
                self.assertEqual([e[1] for _, e in made[3] if e[0] == "call"], [name])
                wide = Book(book.modules() + [made], measure=book.measure())
                self.assertEqual(face(wide, made[0]), slow_face(wide, made[0]))
                self.assertEqual(order(wide, made[0])[0], "order")
                self.assertTrue(slow_ring(wide, name, one, other, made))
        return many

    def test_by_hand(self):
        self.assertEqual(self.all_of(book_of(CROSS), "k"), 2)
        self.assertEqual(self.all_of(book_of(LATE), "l"), 2)
        self.assertEqual(self.all_of(book_of(SPLIT), "s"), 0)
        # x wants all, w and v hang on y; y, v and w are of one part.
        self.assertEqual(self.all_of(book_of(DEEP), "d"), 6)
        self.assertEqual(self.all_of(book_of(LOTS), "o"), 6)

    def test_each_kind_led_to_each_kind(self):
        for text in ("MODULE m (a, b) OUT (x, y)\nx = {}\ny = {}",):
            for x in ("(a + 1)", "(NOT a)", "a", "(a < 3)"):
                for y in ("(b + 1)", "(NOT b)", "b", "(b < 3)"):
                    self.assertEqual(self.all_of(book_of(text.format(x, y)), "m"), 2)

    def test_conditions_on_ins_and_on_outs(self):
        for text, many in (
            ("MODULE m (a, c, b, d) OUT (x, y)\nx = (MERGE c a 1)\ny = (MERGE d b TRUE)", 2),
            ("MODULE m (a, c, b, d) OUT (x, y)\nx = (a WHEN c)\ny = (b UNLESS d)", 2),
            ("MODULE m (a, b) OUT (x, y, z)\nz = (BEATS 0(01))\nx = (a WHEN z)\ny = (b UNLESS z)", 6),
            ("MODULE m (a, b) OUT (x, y, z, w)\nz = (BEATS 0(01))\nw = ((BEATS (1)) WHEN z)\n"
             "x = ((a WHEN z) WHEN w)\ny = (NOT (b UNLESS z))", 10),
            ("MODULE m (c, d, a, b) OUT (x, y)\nx = (MERGE c (MERGE d (NOT a) TRUE) FALSE)\ny = (b - 1)", 2),
            ("MODULE m (c, d, a, b) OUT (x, y)\nx = (MERGE c 1 (MERGE d 2 a))\ny = (b WHEN e)\ne = (BEATS (10))".replace(
                "OUT (x, y)", "OUT (x, y, e)"), 6),
        ):
            self.assertEqual(self.all_of(book_of(text), "m"), many, text)

    def test_many(self):
        found = 0
        for seed in range(60):
            book = Grower(seed, rows=4 + seed % 4, deep=2 + seed % 3).book(1 + seed % 3)
            for module in book.modules():
                found += self.all_of(book, module[0])
        self.assertGreater(found, 100)

    def test_a_book_with_names_taken(self):
        name = caller_for(book_of(CROSS), "k", "x", "y")[0]
        book = book_of(CROSS, f"MODULE {name} () OUT (x)\nx = 1")
        self.assertEqual(self.all_of(book, "k"), 2)
        more = [f"MODULE {name[:-1]}{sign} () OUT (x)\nx = 1" for sign in "abcdefghij"]
        self.assertEqual(self.all_of(book_of(CROSS, *more), "k"), 2)
        with self.assertRaises(TooLong):
            caller_for(book_of(CROSS, *more, "MODULE o () OUT (x)\nx = 1"), "k", "x", "y")

    def test_the_longest_way_round(self):
        # y hangs on six outs, one within the other, and the in h of x on all seven other ins.
        outs, ins = ("oa", "ob", "oc", "od", "oe", "of"), "abcdefg"
        rows = []
        for at, own in enumerate(outs):
            rows.append(f"{own} = (BEATS (10))")
            if at:
                rows.append(f"z{own} = ({own} AND {within('TRUE', outs[:at])})")
        rows.append(f"y = {within('1', outs)}")
        x = "h"
        for c in reversed(ins):
            rows.append(f"p{c} = (MERGE {c} {x} 0)")
            x = f"p{c}"
        rows.append(f"x = {x}")
        book = book_of(f"MODULE m ({', '.join(ins)}, h) OUT (x, y, {', '.join(outs)})\n" + "\n".join(rows))
        self.assertEqual(sorted(len(clock) for clock in face(book, "m")[1])[-2:], [6, 7])
        self.assertEqual(self.all_of(book, "m"), 14)


def within(text, some):
    """The text of an expression led to the clock of some truths, one within the other."""
    for c in some:
        text = f"({text} WHEN {c})"
    return text


class Refused(unittest.TestCase):
    def both(self, kind, *handed):
        for call, more in ((caller_for, ()), (caller_judged, (None,))):
            with self.assertRaises(kind) as caught:
                call(*handed, *more)
        return caught.exception

    def test_names_and_faces(self):
        self.assertEqual(self.both(NoName, book_of(CROSS), "m", "a", "b").name, "m")
        self.assertEqual(self.both(NoFace, book_of("MODULE m () OUT (x)\nx = (x + 1)"), "m", "a", "b").paper, ("ring", ["x"]))

    def test_the_first_that_is_no_out(self):
        book = book_of(LATE)
        for one, other, name in (("a", "z", "a"), ("x", "z", "z"), ("x", "b", "b"), ("q", "x", "q"), ("x", "", ""),
                                 ("Out", "a", "Out"), ("z", "z", "z")):
            self.assertEqual(self.both(NoFlow, book, "l", one, other).name, name)

    def test_twelve_modules(self):
        book = twelve_modules()
        self.both(TooLong, book, "ma", "x", "y")
        self.both(TooLong, book, "ma", "x", "x")
        self.assertEqual(self.both(NoFlow, book, "ma", "x", "a").name, "a")
        self.assertEqual(self.both(NoName, book, "mz", "x", "a").name, "mz")


class Judged(unittest.TestCase):
    def judged(self, text, *, book=None, one="x", other="y", name="k"):
        return caller_judged(book or book_of(CROSS), name, one, other, read_module(text))

    def test_let_by(self):
        self.assertIsNone(self.judged("MODULE m () OUT (x)\nx, y = k((x < 1), 3)"))
        self.assertIsNone(self.judged("MODULE m (a) OUT (x)\nx, y = k(a, (IF y THEN 1 ELSE 2))"))
        self.assertIsNone(self.judged("MODULE m (a) OUT (x)\nx, y = k(a, (IF y THEN 1 ELSE 2))", one="y", other="x"))

    def test_modules(self):
        for thing in ANYTHING:
            self.assertEqual(caller_judged(book_of(CROSS), "k", "x", "y", thing), ("module",))
        for text in ("MODULE k () OUT (x)\nx = 1", "MODULE m () OUT (x)\nx = k(TRUE, 3)", "MODULE m () OUT (x)\nx = o(x)",
                     "MODULE m () OUT (x)\nx, y = k((x < 1), 3)\nz = m()", "MODULE m () OUT (x)\nx, y = k((x < 1))"):
            self.assertEqual(self.judged(text), ("module",))
        fine = read_module("MODULE m () OUT (x)\nx, y = k((x < 1), 3)")
        self.assertEqual(caller_judged(book_of(CROSS), "k", "x", "y", list(fine)), ("module",))
        self.assertEqual(caller_judged(book_of(CROSS), "k", "x", "y", fine + ((),)), ("module",))

    def test_calls(self):
        self.assertEqual(self.judged("MODULE m () OUT (x)\nx = 1"), ("call",))
        self.assertEqual(self.judged("MODULE m () OUT (x)\nx, y = k((x < 1), 3)\nz, v = k(TRUE, 3)"), ("call",))
        # By another one doesn't count.
        book = book_of(CROSS, "MODULE j (a) OUT (x)\nx, y = k(TRUE, a)")
        self.assertEqual(self.judged("MODULE m () OUT (x)\nx = j(3)", book=book), ("call",))
        self.assertIsNone(self.judged("MODULE m () OUT (x)\nx, y = k((x < 1), 3)\nz = j(4)", book=book))

    def test_faces(self):
        for text in ("MODULE m () OUT (x)\nx, y = k(y, 3)", "MODULE m () OUT (x)\nx, y = k(x, 3)",
                     "MODULE m () OUT (x)\nx, y = k((x < 1), 3)\nz = (z + 1)",
                     "MODULE m (c) OUT (x, z)\nx, y = k((x < 1), 3)\nz = ((1 WHEN c) + (2 UNLESS c))",
                     "MODULE m () OUT (z)\nx, y = k((x < 1), 3)\nz = (1 WHEN w)\nw = (BEATS (1))"):
            self.assertEqual(self.judged(text), ("face",), text)

    def test_rings(self):
        for text in ("MODULE m () OUT (x)\nx, y = k(TRUE, 3)", "MODULE m (a, b) OUT (x, y)\nx, y = k(a, b)",
                     "MODULE m () OUT (x)\nx, y = k((TRUE THEN (x < 1)), (0 THEN x))"):
            self.assertEqual(self.judged(text), ("ring",), text)
        # Two of one part, put as one, want what they wanted.
        both = book_of(SPLIT)
        self.assertEqual(self.judged("MODULE m (c) OUT (c)\nx, y = s(1, c)".replace("OUT (c)", "OUT (x)"), book=both, name="s"),
                         ("ring",))
        self.assertEqual(self.judged("MODULE m () OUT (x)\nx, y = k((x < 1), 3)", one="x", other="x"), ("ring",))

    def test_of_three_outs_only_two_are_put_as_one(self):
        book = book_of("MODULE k (a, b, c) OUT (x, y, z)\nx = (a + 1)\ny = (b + 1)\nz = (c + 1)")
        text = "MODULE m () OUT (x)\nx, y, z = k(1, x, 2)"
        for one, other, told in (("x", "y", None), ("y", "x", None), ("x", "z", ("ring",)), ("y", "z", ("ring",))):
            self.assertEqual(self.judged(text, book=book, one=one, other=other), told)
        text = "MODULE m () OUT (x)\nx, y, z = k(1, x, y)"
        for one, other in permutations("xyz", 2):
            self.assertIsNone(self.judged(text, book=book, one=one, other=other))

    def test_rings_within_others(self):
        # Another module that calls it has a ring of its own, or hands on more, with the two put as one.
        ringed = book_of(CROSS, "MODULE j () OUT (x)\nx, y = k((x < 1), 3)")
        self.assertIsNone(self.judged("MODULE m () OUT (x)\nx, y = k(TRUE, 3)\nz = j()", book=ringed))
        self.assertEqual(self.judged("MODULE m () OUT (x)\nx, y = k(TRUE, 3)", book=ringed), ("ring",))
        ringed = book_of(CROSS, "MODULE j () OUT (x)\nx, y = k((x < 1), 3)", "MODULE h () OUT (x)\nx = j()")
        self.assertIsNone(self.judged("MODULE m () OUT (x)\nx, y = k(TRUE, 3)\nz = h()", book=ringed))
        handed_on = book_of(CROSS, "MODULE j (a, b) OUT (x, y)\nx, y = k(a, b)", "MODULE h (a, b) OUT (x, y)\nx, y = j(a, b)", LATE)
        for inner in "jh":
            text = f"MODULE m () OUT (x)\nx, y = k(TRUE, 3)\np, q = {inner}((p < 1), 3)"
            self.assertIsNone(self.judged(text, book=handed_on))
            text = f"MODULE m () OUT (x)\nx, y = k(TRUE, 3)\np, q = {inner}(TRUE, 3)\nv, w = l(p, 1)"
            self.assertEqual(self.judged(text, book=handed_on), ("ring",))

    def test_the_book_stays_as_it_is(self):
        book = book_of(CROSS)
        before = face(book, "k")
        made = caller_for(book, "k", "x", "y")
        made[3].clear()
        made = caller_for(book=book, name="k", one="x", other="y")
        for _ in range(2):
            self.assertIsNone(caller_judged(book=book, name="k", one="x", other="y", caller=made))
            self.assertEqual((face(book, "k"), len(book)), (before, 1))
        self.assertEqual(caller_judged(book, "k", "x", "y", read_module("MODULE m () OUT (x)\nx, y = k(TRUE, 3)")), ("ring",))

    def test_told_soon(self):
        book = Grower(5, rows=9, deep=4).book(8)
        begin = time.monotonic()
        for name, _, outs, _ in book.modules():
            for one in outs:
                for other in outs:
                    made = caller_for(book, name, one, other)
                    if made is not None:
                        self.assertIsNone(caller_judged(book, name, one, other, made))
        self.assertLess(time.monotonic() - begin, 10)


if __name__ == "__main__":
    unittest.main()
