"""Faces, and what they are made of (19, 20)."""

import copy
import time
import unittest

from clockloom.clocks import clocks
from clockloom.errors import NoFace, NoName
from clockloom.faces import face
from clockloom.kinds import kinds
from tests.making import CLOCKED, Maker, SPLIT, book_of, twelve_modules
from tests.oracles import slow_clocks, slow_face, slow_lack, slow_wants

# The first out wants the second in, the second out the first.
CROSS = "MODULE k (a, b) OUT (x, y)\nx = (b + 1)\ny = (NOT a)"
LATE = "MODULE l (a) OUT (x)\nx = (0 THEN a)"


class Faces(unittest.TestCase):
    def face_of(self, *texts):
        return face(book_of(*texts), "m")

    def lacks(self, paper, *texts):
        with self.assertRaises(NoFace) as caught:
            self.face_of(*texts)
        self.assertEqual(caught.exception.paper, paper)
        return caught.exception.paper

    def ring(self, *texts):
        """The ring that a NoFace holds, looked at by the wants."""
        book = book_of(*texts)
        with self.assertRaises(NoFace) as caught:
            face(book, "m")
        word, ring = caught.exception.paper
        self.assertEqual(word, "ring")
        self.assertIsInstance(ring, list)
        self.assertEqual(len(set(ring)), len(ring))
        wants = slow_wants(book, "m", slow_clocks(book, "m")[1])
        for one, other in zip(ring, ring[1:] + ring[:1]):
            self.assertIn(other, wants[one])
        return ring

    def test_kinds_clocks_and_wants(self):
        self.assertEqual(self.face_of("MODULE m (a, b, c) OUT (x, y)\nx = (IF (b < 3) THEN a ELSE a)\ny = (x WHEN c)"), (
            (0, "number", "truth", 0, 0), ((), (), (), (), (("c", True),)), (("a", "b"), ("a", "b", "c"))))
        told = self.face_of(SPLIT.replace(" s ", " m "))
        self.assertEqual(told, ((0, "truth", 0, 0), ((), (), (("c", True),), (("c", False),)), (("a", "c"), ("a", "c"))))
        self.assertEqual([type(part) for part in told], [tuple] * 3)
        self.assertEqual(self.face_of("MODULE m () OUT (x)\nx = 1"), (("number",), ((),), ((),)))

    def test_outs_in_their_order_not_that_of_rows(self):
        told = self.face_of("MODULE m (a, b) OUT (y, x)\nx = (a + 1)\nz = x\ny = (NOT b)")
        self.assertEqual(told, (("number", "truth", "truth", "number"), ((),) * 4, (("b",), ("a",))))

    def test_ins_wanted_in_their_order(self):
        told = self.face_of("MODULE m (a, b, c, d) OUT (x)\nx = (d + (c + y))\ny = (a + 1)")
        self.assertEqual(told[2], (("a", "c", "d"),))

    def test_lots_are_numbered_as_they_come(self):
        told = self.face_of("MODULE m (a, b, c, d) OUT (x, y, z)\nx = c\ny = b\nz = 1\nv = (d < 1)")
        self.assertEqual(told[0], (0, 1, 2, "number", 2, 1, "number"))
        told = self.face_of("MODULE n (a) OUT (x)\nx = a", "MODULE m (a, b, c) OUT (y, x)\nx = n(b)\ny = n(c)\nz = n((NOT a))")
        self.assertEqual(told[0], ("truth", 0, 1, 1, 0))

    def test_a_row_that_ties_two_ins(self):
        free = "MODULE m (a, b) OUT (x)\nx = a"
        self.assertEqual(self.face_of(free), ((0, 1, 0), ((), (), ()), (("a",),)))
        self.assertEqual(self.face_of(free + "\ny = (a = b)"), ((0, 0, 0), ((), (), ()), (("a",),)))
        self.assertEqual(self.face_of(free + "\ny = (NOT b)")[0], (0, "truth", 0))

    def test_kinds_through_calls(self):
        self.assertEqual(self.face_of(SPLIT, "MODULE m (p, q, c) OUT (x, z)\nx, y = s(p, c)\nz, v = s(q, c)\nw = (q < 1)"), (
            (0, "number", "truth", 0, "number"), ((), (), (), (("c", True),), (("c", True),)), (("p", "c"), ("q", "c"))))

    def test_clocks_through_calls(self):
        told = self.face_of("MODULE o (a, b) OUT (x, d)\nd = (a < b)\nx = (a WHEN d)",
                            "MODULE m (p, q, r) OUT (y, e)\ny, e = o((p WHEN r), (q WHEN r))")
        self.assertEqual(told[1], ((), (), (), (("r", True), ("e", True)), (("r", True),)))
        told = self.face_of("MODULE k (c, d) OUT (x)\nx = (MERGE c d 0)", "MODULE m (f, e) OUT (y)\ny = k(e, f)")
        self.assertEqual(told[1], ((("e", True),), (), ()))

    def test_wants_through_calls(self):
        self.assertEqual(self.face_of(CROSS, "MODULE m (p, q) OUT (x, y)\nx, y = k((q < 1), (p + 2))")[2], (("p",), ("q",)))
        # What a part holds within a then is not wanted; the whole of another part is.
        self.assertEqual(self.face_of(CROSS, "MODULE m (p, q, r) OUT (x, y)\nx, y = k((TRUE THEN p), ((3 THEN r) + q))")[2],
                         (("q",), ()))
        self.assertEqual(self.face_of(LATE, "MODULE m (p) OUT (x)\nx = l(p)")[2], ((),))
        # An out that a called one doesn't lead to lets a loop go through the caller.
        told = self.face_of(CROSS, "MODULE m (a) OUT (y)\nx, y = k(v, a)\nv = (x < 7)")
        self.assertEqual(told[2], (("a",),))

    def test_wants_of_each_word(self):
        head = "MODULE m (a, b, c, d) OUT (x)\nx = "
        for text, ins in (
            ("7", ""), ("a", "a"), ("(a + d)", "ad"), ("(NOT c)", "c"), ("(IF a THEN b ELSE c)", "abc"),
            ("(0 THEN a)", ""), ("(a WHEN b)", "ab"), ("(a UNLESS d)", "ad"), ("(MERGE c a b)", "abc"),
            ("(b = (1 THEN (c + a)))", "b"), ("((0 THEN a) WHEN b)", "b"), ("(0 THEN (a WHEN b))", "b"),
            ("(MERGE d (0 THEN a) 1)", "d"), ("(BEATS (1))", ""),
        ):
            self.assertEqual(self.face_of(head + text)[2], (tuple(ins),), text)

    def test_wants_of_conditions(self):
        # What x hangs on is wanted, though its row reads it within a then alone.
        told = self.face_of("MODULE m (a, b, c) OUT (x, y)\nx = (0 THEN ((a WHEN b) WHEN y))\ny = (c WHEN b)")
        self.assertEqual(told[2], (("b", "c"), ("b", "c")))
        told = self.face_of(LATE, "MODULE m (a, b) OUT (x)\nx = l((a WHEN b))")
        self.assertEqual(told, (("number", "truth", "number"), ((), (), (("b", True),)), (("b",),)))

    def test_no_kinds(self):
        clash = self.lacks(("clash", [(0, (1,))]), "MODULE m (a, c) OUT (x)\nx = (1 + (a < 1))\ny = (a + (a WHEN c))")
        clash[1].clear()
        self.lacks(("clash", [(0, (1,))]), "MODULE m (a, c) OUT (x)\nx = (1 + (a < 1))\ny = (a + (a WHEN c))")
        self.lacks(("inner", "n"), "MODULE n (a) OUT (x)\nx = (NOT 1)", "MODULE m (a, c) OUT (x)\nx = n(a)\ny = (NOT 1)")

    def test_kinds_go_ahead_of_clocks(self):
        # The first called one has no clocks, the second one no kinds.
        self.lacks(("inner", "n"), "MODULE n (a) OUT (x)\nx = (NOT 1)", "MODULE w (a, c) OUT (x)\nx = (a + (a WHEN c))",
                   "MODULE m (a, c) OUT (x)\nx = w(a, c)\ny = n(a)")

    def test_no_clocks(self):
        book = book_of("MODULE m (a, c) OUT (x)\nx = (a + (a WHEN c))\ny = (a WHEN d)\nd = (d AND d)")
        with self.assertRaises(NoFace) as caught:
            face(book, "m")
        self.assertEqual(caught.exception.paper, clocks(book, "m"))
        self.assertEqual(caught.exception.paper[0], "clash")
        ringed = "MODULE r (a) OUT (x)\nx = (x + a)"
        self.lacks(("inner", "r"), ringed, "MODULE m (a, c) OUT (x)\nx = r(a)\ny = (a + (a WHEN c))")
        self.lacks(("plain", 0, 1), SPLIT, "MODULE m (a, c) OUT (x)\nx, y = s(a, (NOT c))\nz = z")

    def test_names(self):
        self.lacks(("name", "x"), "MODULE m (a, b) OUT (x)\nx = (a WHEN d)\nd = (b AND b)\nz = z")
        self.lacks(("name", "a"), "MODULE m (a, b) OUT (x)\nx = (MERGE d a 1)\nd = (b AND b)\ny = (1 WHEN d)")
        # Of an in also an out is none, though an out may hang on one; ins go ahead of outs.
        self.lacks(("name", "b"), "MODULE m (a, b) OUT (d, x)\nx = (MERGE d b 1)\nd = (NOT a)")
        self.lacks(("name", "b"), "MODULE m (a, b, c) OUT (y, d)\nx = (MERGE d b (2 THEN c))\nd = (NOT a)\ny = (1 WHEN e)\ne = d")
        self.assertEqual(self.face_of("MODULE m (a) OUT (x, d)\nx = (1 WHEN d)\nd = (NOT a)")[1],
                         ((), (("d", True),), ()))
        self.lacks(("name", "y"), "MODULE m (a) OUT (x, y, z)\nx = (1 WHEN a)\ny = (1 WHEN e)\ne = (NOT a)\nz = (2 WHEN e)")
        # The one that is none may stand ahead of the last.
        self.lacks(("name", "x"), "MODULE m (a, b) OUT (x, v)\nx = ((a WHEN d) WHEN v)\nv = (TRUE WHEN d)\nd = (NOT b)")

    def test_rings(self):
        self.assertEqual(self.ring("MODULE m (a) OUT (x)\nx = (x + a)"), ["x"])
        self.assertEqual(sorted(self.ring("MODULE m (a) OUT (x)\nx = (y + a)\ny = z\nz = (x + 1)\nv = x")), ["x", "y", "z"])
        self.ring("MODULE m (a) OUT (x)\nx = (IF y THEN 1 ELSE a)\ny = (x < 5)\nz = (0 THEN z)")
        self.ring(SPLIT, "MODULE m (a) OUT (c)\nx, y = s(a, c)\nc = (0 = (MERGE c x y))")
        self.ring(CROSS, "MODULE m (a) OUT (x)\nx, y = k(v, u)\nv = (x < 7)\nu = (IF y THEN 1 ELSE a)")

    def test_rings_by_conditions_alone(self):
        # d wants what it hangs on, e; e wants d.
        self.ring("MODULE m (a, b) OUT (x)\nd = (0 THEN (1 WHEN e))\ne = f\nf = (MERGE e (d < 3) TRUE)\nx = 1")

    def test_no_ring_through_a_then(self):
        self.assertEqual(self.face_of("MODULE m (a) OUT (x)\nx = ((0 THEN x) + a)")[2], (("a",),))
        self.assertEqual(self.face_of(LATE, "MODULE m (a) OUT (x)\nx = l(y)\ny = (x + a)")[2], ((),))

    def test_no_name_goes_ahead(self):
        for name in ("", "s2", "M"):
            with self.assertRaises(NoName) as caught:
                face(book_of(SPLIT), name)
            self.assertEqual(caught.exception.name, name)
        self.assertEqual(face(name="s", book=book_of(SPLIT)), face(book_of(SPLIT), "s"))

    def test_lists_changed_behind(self):
        for text in ("MODULE m (a) OUT (x)\nx = (x + a)", "MODULE m (a) OUT (x)\nx = (NOT 1)",
                     "MODULE m (a, c) OUT (x)\nx = (a + (a WHEN c))"):
            book = book_of(text)
            told = []
            for _ in range(2):
                with self.assertRaises(NoFace) as caught:
                    face(book, "m")
                told.append(copy.deepcopy(caught.exception.paper))
                last = caught.exception.paper[1][-1]
                if last[0] == "within":
                    last[1].clear()
                caught.exception.paper[1].clear()
            self.assertEqual(told[0], told[1])

    def test_told_soon(self):
        book = twelve_modules()
        begin = time.monotonic()
        self.assertEqual(face(book, "ml"), face(book, "ma"))
        self.assertLess(time.monotonic() - begin, 5)

    def test_large_modules_are_told_soon(self):
        outs = "abcdefgh"
        wide = f"MODULE w ({', '.join('p' + x for x in outs)}) OUT ({', '.join('q' + x for x in outs)})\n" + "\n".join(
            f"q{x} = p{x}" for x in outs)
        rows = [f"{', '.join(x + chr(97 + k // 8) + chr(97 + k % 8) for x in outs)} = w(i, i, 1, i, i, 2, i, i)"
                for k in range(22)]
        book = book_of(wide, "MODULE m (i) OUT (za)\n" + "\n".join(rows + ["za = (0 THEN aab)"]))
        begin = time.monotonic()
        self.assertEqual(face(book, "m")[2], ((),))
        self.assertLess(time.monotonic() - begin, 5)

    def test_by_a_slow_way(self):
        found = {}
        for seed in range(120):
            book = Maker(seed, words=CLOCKED[seed % 4], plain=(8, 20, 40)[seed % 3]).book(3, rows=2 + seed % 3, deep=2)
            for module in book.modules():
                name = module[0]
                try:
                    told, lack = face(book, name), None
                except NoFace as refused:
                    told, paper = None, refused.paper
                    lack = " ".join(paper[:2]) if paper[0] == "name" else paper[0]
                    if paper[0] in ("clash", "inner"):
                        self.assertIn(paper, (kinds(book, name), clocks(book, name)))
                self.assertEqual(repr(told), repr(slow_face(book, name)))
                self.assertEqual(lack, slow_lack(book, name))
                found[lack] = True
        self.assertTrue({None, "clash", "ring"} <= set(found), found)


if __name__ == "__main__":
    unittest.main()
