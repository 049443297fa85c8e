"""Parts of modules, and modules run part by part (31)."""

import time
import unittest
from random import Random

from clockloom.books import Book
from clockloom.errors import NoBeat, NoFace, NoName, NoPart, TooLong
from clockloom.faces import face
from clockloom.flat import MOST_FLAT, flat
from clockloom.parts import Parted, parts
from clockloom.teller import Run
from tests.growing import Grower, history
from tests.making import SPLIT, book_of, twelve_modules

CROSS = "MODULE k (a, b, c) OUT (x, y, z, v, w)\nx = (b + 1)\ny = (NOT a)\nz = (0 THEN c)\nv = (b - 1)\nw = 5"
RINGED = "MODULE m (a) OUT (x)\nx = (x + a)"
# An in that hangs on another one, and counts of their own, also in what is called.
DEEP = "MODULE n (a) OUT (x)\nx = (0 THEN (x + a))"
TOP = ("MODULE m (e, d, f) OUT (x, y, z)\nx = (MERGE d e 7)\ny = n(f)\nv = n((f WHEN u))\nu = (BEATS 1(10))\n"
       "z = (MERGE u v 50)\nw = (f = 1)")


def long_book(many):
    """A book whose module m has just so many flat rows, and two parts: for 24 calls of some rows each."""
    each = (many - 1) // 24
    rows = [f"y{a}{b} = (0 THEN (y{a}{b} + a))" for a in "abcd" for b in "abcdefghijklmno"][:each // 2]
    if each % 2:
        rows.append("z = a")
    left = many - 24 * each
    calls = [f"z{a}{b} = n({'a' if a < 'c' else 'b'})" for a in "abcd" for b in "abcdef"]
    more = [f"w{sign} = a" for sign in "abcdefghijklmnopqrstuvwxyz"[:left]]
    return book_of("MODULE n (a) OUT (yaa)\n" + "\n".join(rows), "MODULE m (a, b) OUT (zaa, zdf)\n" + "\n".join(calls + more))


class Parts(unittest.TestCase):
    def test_outs_that_want_the_same_ins(self):
        self.assertEqual(parts(book_of(CROSS), "k"), [(("x", "v"), ("b",)), (("y",), ("a",)), (("z", "w"), ())])

    def test_one_part_and_none_wanted(self):
        self.assertEqual(parts(book_of(SPLIT), "s"), [(("x", "y"), ("a", "c"))])
        self.assertEqual(parts(book_of("MODULE m () OUT (x, y)\ny = x\nx = 1"), "m"), [(("x", "y"), ())])
        self.assertEqual(parts(twelve_modules(), "ml"), [(("x", "y"), ("a", "c"))])

    def test_in_the_order_of_outs_and_of_ins_not_of_rows(self):
        text = "MODULE m (a, b, c) OUT (z, x, y)\nx = (c + a)\ny = 1\nz = (a + (c + y))"
        self.assertEqual(parts(book_of(text), "m"), [(("z", "x"), ("a", "c")), (("y",), ())])

    def test_by_the_face_not_by_the_rows_of_what_is_called(self):
        # The called module's clock wants c of both, and n's out wants nothing within the beat.
        book = book_of(DEEP, SPLIT, "MODULE m (a, c) OUT (x, y, z)\nx, y = s(a, c)\nz = n(a)")
        self.assertEqual(parts(book, "m"), [(("x", "y"), ("a", "c")), (("z",), ())])

    def test_by_faces_of_many(self):
        for seed in range(40):
            book = Grower(seed, rows=6, deep=3).book(3)
            for name, ins, outs, _ in book.modules():
                wants = dict(zip(outs, face(book, name)[2]))
                told = parts(book, name)
                self.assertEqual([outs[0] for outs, _ in told], [x for at, x in enumerate(outs) if wants[x] not in [
                    wants[y] for y in outs[:at]]])
                for some, asked in told:
                    self.assertEqual(some, tuple(x for x in outs if wants[x] == asked))
                    self.assertIsInstance(asked, tuple)
                self.assertIsInstance(told, list)

    def test_new_lists(self):
        book = book_of(CROSS)
        parts(book, "k").clear()
        self.assertEqual(len(parts(name="k", book=book)), 3)

    def test_refused(self):
        for kind in (parts, Parted):
            with self.assertRaises(NoName) as caught:
                kind(book_of(CROSS), "m")
            self.assertEqual(caught.exception.name, "m")
            with self.assertRaises(NoFace) as caught:
                kind(book_of(RINGED), "m")
            self.assertEqual(caught.exception.paper, ("ring", ["x"]))

    def test_most_flat_rows(self):
        for many in (MOST_FLAT - 1, MOST_FLAT):
            book = long_book(many)
            self.assertEqual(len(flat(book, "m")[2]), many)
            begin = time.monotonic()
            ran = Parted(book, "m")
            for at in range(30):
                self.assertEqual(ran.told(0, {}), {"zaa": 3 * at, "zdf": 2 * at})
                ran.go_on({"a": 3, "b": 2})
            self.assertLess(time.monotonic() - begin, 5)
        book = long_book(MOST_FLAT + 1)
        with self.assertRaises(TooLong):
            Parted(book, "m")
        self.assertEqual(parts(book, "m"), [(("zaa", "zdf"), ())])


class Told(unittest.TestCase):
    def test_as_a_run(self):
        for seed in range(60):
            book = Grower(seed, rows=4 + seed % 6, deep=2 + seed % 4, calls=(0.2, 0.5)[seed % 2]).book(1 + seed % 4)
            book = Book(book.modules(), measure=(2, 50)[seed % 2])
            for name in [module[0] for module in book.modules()]:
                if len(flat_rows(book, name)) > MOST_FLAT:
                    continue
                chance = Random(seed)
                told = parts(book, name)
                ran, run = Parted(book, name), Run(book, name)
                for beat in history(seed, book, name, 9):
                    expected = run.feed(beat)
                    for _ in range(chance.randrange(2 * len(told) + 1)):
                        k = chance.randrange(len(told))
                        answer = ran.told(k, {x: beat[x] for x in told[k][1]})
                        self.assertEqual(repr(answer), repr({x: expected[x] for x in told[k][0]}))
                        answer.clear()
                    self.assertIsNone(ran.go_on(beat))

    def test_thens_and_beats_in_what_is_called(self):
        book = book_of(DEEP, TOP)
        self.assertEqual(parts(book, "m"), [(("x",), ("e", "d")), (("y", "z"), ())])
        ran = Parted(book, "m")
        told = []
        for at, (e, d, f) in enumerate(((1, True, 1), (None, False, 2), (3, True, 3), (4, True, 4), (None, False, 5))):
            if at != 2:
                told.append((ran.told(0, {"e": e, "d": d}), ran.told(1, {})))
            ran.go_on({"f": f, "d": d, "e": e})
        self.assertEqual(told, [({"x": 1}, {"y": 0, "z": 0}), ({"x": 7}, {"y": 1, "z": 1}), ({"x": 4}, {"y": 6, "z": 3}),
                                ({"x": 7}, {"y": 10, "z": 50})])

    def test_the_way_round_by_parts(self):
        # The first out is told, turned, and led to the in that the other one wants, in one beat.
        ran = Parted(book_of(CROSS), "k")
        for at in range(3):
            first = ran.told(0, {"b": at})
            self.assertEqual(first, {"x": at + 1, "v": (at - 1) % 2147483647})
            self.assertEqual(ran.told(1, {"a": first["x"] < 2}), {"y": at >= 1})
            self.assertEqual(ran.told(2, {}), {"z": [0, 2, 3][at], "w": 5})
            ran.go_on({"c": first["x"] + 1, "a": at < 1, "b": at})


def flat_rows(book, name):
    """The rows of a flat module; of one that is too long more than may be."""
    try:
        return flat(book, name)[2]
    except TooLong:
        return [None] * (MOST_FLAT + 1)


class Refused(unittest.TestCase):
    def refused(self, name, call, *handed):
        with self.assertRaises(NoBeat) as caught:
            call(*handed)
        self.assertEqual(caught.exception.name, name, handed)

    def test_no_part(self):
        ran = Parted(book_of(CROSS), "k")
        for k in (-1, 3, 4, 10 ** 29, -3):
            with self.assertRaises(NoPart):
                ran.told(k, {"off": None})
        self.assertEqual(ran.told(k=0, ins={"b": 1}), {"x": 2, "v": 0})

    def test_ins_of_the_part(self):
        ran = Parted(book_of(CROSS), "k")
        for name, k, handed in (
            ("b", 0, {}), ("b", 0, {"b": None}), ("b", 0, {"b": True}), ("b", 0, {"b": 2147483647}), ("b", 0, {"b": "1"}),
            ("a", 0, {"b": 1, "a": True}), ("a", 0, {"b": 1, "c": 1, "a": None}), ("x", 0, {"b": 1, "x": 1}),
            ("a", 1, {"a": 1}), ("a", 1, {"b": 1, "c": 1}), ("b", 1, {"a": True, "b": 1}), ("", 1, {"a": True, "b": 1, "": 2}),
            ("a", 2, {"a": True}), ("b", 2, {"c": 1, "b": 1}),
        ):
            self.refused(name, ran.told, k, handed)
        for name, handed in (("a", {}), ("b", {"a": True, "c": 1}), ("c", {"a": True, "b": 1}), ("c", {"a": True, "b": 1, "c": False}),
                             ("d", {"a": True, "b": 1, "c": 2, "d": 1}), ("a", {"b": 1, "a": 0, "c": 2, "A": 1})):
            self.refused(name, ran.go_on, handed)
        ran.go_on(ins={"c": 9, "b": 1, "a": True})
        self.assertEqual(ran.told(2, {}), {"z": 9, "w": 5})

    def test_there_and_not_there(self):
        ran = Parted(book_of(DEEP, TOP), "m")
        for name, handed in (("e", {"e": None, "d": True}), ("e", {"e": 1, "d": False}), ("e", {"d": True}), ("d", {"e": None}),
                             ("e", {"e": 1}), ("d", {"e": None, "d": None}), ("d", {"e": None, "d": 1}), ("e", {"e": 1, "d": 1}),
                             ("f", {"e": 1, "d": True, "f": 1}), ("f", {"e": None, "d": False, "x": 1, "f": None})):
            self.refused(name, ran.told, 0, handed)
        self.assertEqual(ran.told(0, {"e": None, "d": False}), {"x": 7})

    def test_another_worth_than_when_a_part_was_asked(self):
        text = "MODULE m (e, d, f) OUT (x, y, z)\nx = (MERGE d e 7)\ny = (f + (IF d THEN 1 ELSE 2))\nz = (0 THEN (f + 1))"
        ran = Parted(book_of(text), "m")
        self.assertEqual(ran.told(0, {"e": 4, "d": True}), {"x": 4})
        self.refused("e", ran.told, 0, {"e": 5, "d": True})
        self.refused("e", ran.told, 0, {"e": None, "d": False})
        self.refused("d", ran.told, 1, {"f": 1, "d": False})
        # Refused as a Run refuses first.
        self.refused("e", ran.told, 0, {"e": 4, "d": False})
        self.refused("f", ran.told, 1, {"f": None, "d": False})
        self.refused("q", ran.told, 1, {"f": 1, "d": False, "q": 1})
        self.assertEqual(ran.told(0, {"e": 4, "d": True}), {"x": 4})
        # What was refused was not asked: f is free still.
        self.assertEqual(ran.told(1, {"f": 8, "d": True}), {"y": 9})
        self.refused("f", ran.told, 1, {"f": 1, "d": True})
        self.refused("f", ran.go_on, {"e": 4, "d": True, "f": 1})
        self.refused("e", ran.go_on, {"e": 0, "d": True, "f": 1})
        self.refused("e", ran.go_on, {"e": None, "d": False, "f": 8})
        self.refused("g", ran.go_on, {"e": 0, "d": True, "f": 1, "g": 1})
        self.assertEqual(ran.told(2, {}), {"z": 0})
        ran.go_on({"e": 4, "d": True, "f": 8})
        # The next beat is free.
        self.assertEqual(ran.told(0, {"e": None, "d": False}), {"x": 7})
        self.assertEqual(ran.told(2, {}), {"z": 9})
        ran.go_on({"e": None, "d": False, "f": 0})
        self.assertEqual(ran.told(2, {}), {"z": 1})

    def test_what_is_refused_changes_nothing(self):
        for seed in range(30):
            book = Grower(seed, rows=6, deep=4).book(2)
            name = book.modules()[-1][0]
            told = parts(book, name)
            ran, beside = Parted(book, name), Parted(book, name)
            chance = Random(seed)
            beats = history(seed, book, name, 8)
            for at, beat in enumerate(beats):
                for _ in range(4):
                    other = dict(chance.choice(beats))
                    other[chance.choice(sorted(other))] = chance.choice((None, True, 3, "x"))
                    self.refused_or_alike(ran, chance.choice((None, *range(len(told)))), beat, other, told)
                    k = chance.randrange(len(told))
                    handed = {x: beat[x] for x in told[k][1]}
                    self.assertEqual(ran.told(k, handed), beside.told(k, handed))
                ran.go_on(beat)
                beside.go_on(beat)

    def refused_or_alike(self, ran, k, beat, other, told):
        """Hands in what is another beat, where that can't be right."""
        asked = list(beat) if k is None else told[k][1]
        if k is None or all(other[x] is not None and other[x] == beat[x] for x in asked):
            other = dict(other, qq=1)
        handed = {x: other[x] for x in other if x in asked or x == "qq"}
        if k is not None and repr(handed) != repr({x: handed[x] for x in beat if x in asked}):
            handed["zzz"] = 1
        handed["zzzz"] = 1
        with self.assertRaises(NoBeat):
            ran.go_on(handed) if k is None else ran.told(k, handed)

    def test_what_is_handed_in_may_be_changed(self):
        ran = Parted(book_of(CROSS), "k")
        handed = {"b": 1}
        ran.told(0, handed)
        handed["b"] = 2
        self.refused("b", ran.told, 0, handed)
        every = {"a": True, "b": 1, "c": 3}
        ran.go_on(every)
        every.clear()
        self.assertEqual(ran.told(2, {}), {"z": 3, "w": 5})

    def test_two_are_apart(self):
        book = book_of(DEEP, TOP)
        one, other = Parted(book, "m"), Parted(book=book, name="m")
        one.go_on({"e": 1, "d": True, "f": 5})
        self.assertEqual((one.told(1, {}), other.told(1, {})), ({"y": 5, "z": 5}, {"y": 0, "z": 0}))


if __name__ == "__main__":
    unittest.main()
