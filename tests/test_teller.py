"""The plain teller (21, 22, 23)."""

import copy
import time
import unittest
from random import Random

from clockloom.books import Book
from clockloom.errors import NoBack, NoBeat, NoFace, NoName, NoState
from clockloom.teller import Run
from clockloom.texts import read_modules
from tests.growing import Grower, history
from tests.making import ANYTHING, SPLIT, book_of
from tests.slowteller import SlowRun

COUNT = "MODULE n (a) OUT (x)\nx = (0 THEN (x + a))"
# Ins that hang on one another, the one that hangs ahead.
DEEP = "MODULE m (e, d, c) OUT (x)\nx = (MERGE c (MERGE d e 0) 1)"


def book_by(measure, *texts):
    return Book(read_modules("\n\n".join(texts)), measure=measure)


class Beats(unittest.TestCase):
    def beats(self, text, *beats, measure=1000, outs="x"):
        """What x is at each beat; beats are worths of the ins, in order."""
        book = book_by(measure, text) if isinstance(text, str) else book_by(measure, *text)
        run = Run(book, "m")
        told = []
        for worths in beats:
            out = run.feed(dict(zip(book.module("m")[1], worths)))
            self.assertEqual(list(out), list(book.module("m")[2]))
            told.append(out[outs])
        return told

    def test_each_word(self):
        numbers = [(0, 0), (3, 9), (9, 3), (9, 9), (7, 8)]
        for text, told in (
            ("(a + b)", [0, 2, 2, 8, 5]), ("(a - b)", [0, 4, 6, 0, 9]), ("(a * b)", [0, 7, 7, 1, 6]),
            ("(a < b)", [False, True, False, False, True]), ("(a = b)", [True, False, False, True, False]),
            ("(IF (a < b) THEN a ELSE b)", [0, 3, 3, 9, 7]), ("a", [0, 3, 9, 9, 7]), ("123", [3] * 5), ("0", [0] * 5),
            ("TRUE", [True] * 5), ("FALSE", [False] * 5), ("(3 < 13)", [False] * 5), ("(3 = 13)", [True] * 5),
            ("(BEATS 10(110))", [True, False, True, True, False]), ("(BEATS (01))", [False, True, False, True, False]),
            ("(25 THEN a)", [5, 0, 3, 9, 9]), ("(TRUE THEN (a < b))", [True, False, True, False, False]),
            ("((a + b) + (5 THEN (1 THEN a)))", [5, 3, 2, 1, 4]),
        ):
            rows = f"MODULE m (a, b) OUT (x)\nx = {text}\nz = (a + b)"
            found = self.beats(rows, *numbers, measure=10)
            self.assertEqual(repr(found), repr(told), text)
        truths = [(False, False), (False, True), (True, False), (True, True)]
        for text, told in (
            ("(a AND b)", [False, False, False, True]), ("(a OR b)", [False, True, True, True]),
            ("(NOT a)", [True, True, False, False]), ("(a = b)", [True, False, False, True]),
            ("(IF a THEN b ELSE (NOT b))", [True, False, False, True]),
            ("(a WHEN b)", [None, False, None, True]), ("(a UNLESS b)", [False, None, True, None]),
        ):
            rows = f"MODULE m (a, b) OUT (x)\nx = {text}\nz = (a AND b)"
            self.assertEqual(self.beats(rows, *truths), told, text)
        rows = "MODULE m (c, a, b) OUT (x)\nx = (MERGE c a b)\ny = (b < 1)\nz = (a < 1)"
        self.assertEqual(self.beats(rows, (True, 3, None), (False, None, 4), (True, 5, None)), [3, 4, 5])

    def test_beats_and_thens_go_by_the_beats_at_which_they_are_there(self):
        beats = [(c, a) for c, a in zip([False, True, True, False, True, True], range(6))]
        rows = "MODULE m (c, a) OUT (x)\nx = ({} WHEN c)\ny = (a WHEN c)"
        self.assertEqual(self.beats(rows.format("(BEATS (10))"), *beats), [None, False, True, None, True, False])
        self.assertEqual(self.beats(rows.format("(9 THEN a)"), *beats), [None, 0, 1, None, 3, 4])
        rows = "MODULE m (c, a) OUT (x)\nx = {}\ny = (a WHEN c)\nv = (IF x THEN y ELSE 7)"
        self.assertEqual(self.beats(rows.format("(BEATS (10))"), *beats), [None, True, False, None, True, False])
        rows = "MODULE m (c, a) OUT (x)\nx = (9 THEN y)\ny = (a WHEN c)"
        self.assertEqual(self.beats(rows, *beats), [None, 9, 1, None, 2, 4])

    def test_both_parts_of_a_merge_keep_on_their_own(self):
        rows = "MODULE m (c, a) OUT (x)\nx = (MERGE c (50 THEN (a WHEN c)) (60 THEN (a UNLESS c)))"
        beats = [(c, a) for c, a in zip([True, False, True, True, False, False], range(6))]
        self.assertEqual(self.beats(rows, *beats), [50, 60, 0, 2, 1, 4])

    def test_a_then_of_itself(self):
        self.assertEqual(self.beats("MODULE m (a) OUT (x)\nx = (1 THEN (x * 2))\ny = (a < 1)", *[(0,)] * 5), [1, 2, 4, 8, 16])

    def test_calls_have_their_own(self):
        top = "MODULE m (c, a) OUT (x, z)\ny = n(a)\nz = n((a WHEN c))\nx = n((y + 1))"
        beats = [(c, a) for c, a in zip([True, False, True, True, False, True], [1, 2, 3, 4, 5, 6])]
        top = top.replace("OUT (x, z)", "OUT (x, y, z)")
        self.assertEqual(self.beats([COUNT, top], *beats, outs="z"), [0, None, 1, 4, None, 8])
        self.assertEqual(self.beats([COUNT, top], *beats, outs="y"), [0, 1, 3, 6, 10, 15])
        self.assertEqual(self.beats([COUNT, top], *beats, outs="x"), [0, 1, 3, 7, 14, 25])

    def test_a_called_module_goes_on_by_its_base(self):
        inner = "MODULE k (a) OUT (x)\nb = (BEATS (10))\nx = (IF b THEN a ELSE (0 THEN x))"
        top = "MODULE m (c, a) OUT (x)\nx = k((a WHEN c))\ny = c"
        beats = [(c, a) for c, a in zip([False, True, True, False, True, True], range(6))]
        self.assertEqual(self.beats([inner, top], *beats), [None, 1, 1, None, 4, 4])

    def test_worths_by_the_measure(self):
        self.assertEqual(self.beats("MODULE m (a) OUT (x)\nx = (7 THEN (a - 1))", (0,), (1,), (1,), measure=2), [1, 1, 0])
        self.assertEqual(self.beats("MODULE m (a) OUT (x)\nx = (a * a)", (10 ** 12 - 1,), measure=10 ** 12), [1])

    def test_by_a_slow_teller(self):
        for seed in range(70):
            book = Grower(seed, rows=4 + seed % 4, deep=2 + seed % 4).book(1 + seed % 4)
            book = Book(book.modules(), measure=(2, 5, 1000)[seed % 3])
            name = book.modules()[-1][0]
            run, slow = Run(book, name), SlowRun(book, name)
            for beat in history(seed, book, name, 9):
                told = slow.feed(beat)
                self.assertEqual(repr(run.feed(beat)), repr(told))
                self.assertEqual(repr(run.flows()), repr(slow.flows))
                held = {(way, place): worth for way, place, worth in run.state()}
                self.assertEqual({key: worth for key, worth in held.items() if key in slow.held}, slow.held)

    def test_told_soon(self):
        texts = ["MODULE ma (a) OUT (x)\nx = (0 THEN (a + x))"]
        for name, below in zip("bcdefghijkl", "abcdefghijk"):
            twice = f"\nv = m{below}((x + 1))" if name < "i" else ""
            texts.append(f"MODULE m{name} (a) OUT (x)\nx = m{below}(a){twice}")
        book = book_of(*texts)
        begin = time.monotonic()
        run = Run(book, "ml")
        for at in range(300):
            run.feed({"a": at})
            run.copy()
        run.back(200)
        self.assertEqual(run.feed({"a": 0}), {"x": 99 * 100 // 2})
        self.assertLess(time.monotonic() - begin, 10)


class Fed(unittest.TestCase):
    def refused(self, run, name, handed):
        """That a beat is refused by this name, and all is as it was."""
        before = (run.state(), run.flows(), len(run))
        with self.assertRaises(NoBeat) as caught:
            run.feed(handed)
        self.assertEqual(caught.exception.name, name, handed)
        self.assertEqual((run.state(), run.flows(), len(run)), before)

    def test_names(self):
        run = Run(book_of(SPLIT.replace("(a WHEN c)", "((a + 1) WHEN c)")), "s")
        self.refused(run, "a", {})
        self.refused(run, "a", {"c": True})
        self.refused(run, "c", {"a": 1})
        self.refused(run, "x", {"a": 1, "c": True, "x": 1})
        self.refused(run, "x", {"a": 1, "c": True, "y": None, "x": None})
        self.refused(run, "", {"b": 1, "a": 1, "": 2, "c": True})
        self.refused(run, "A", {"b": 1, "a": 1, "A": 2, "c": True})
        self.refused(run, "c", {"a": 1, "b": 2})
        self.assertEqual(run.feed({"c": True, "a": 1}), {"x": 2, "y": None})

    def test_kinds(self):
        run = Run(book_by(10, SPLIT.replace("(a WHEN c)", "((a + 1) WHEN c)")), "s")
        for thing in ANYTHING + (10, "1", 10 ** 20, 1.0, "a"):
            if not (isinstance(thing, int) and not isinstance(thing, bool) and 0 <= thing < 10):
                self.refused(run, "a", {"a": thing, "c": True})
            if not isinstance(thing, bool):
                self.refused(run, "c", {"a": 1, "c": thing})
        self.assertEqual(run.feed({"a": 9, "c": False}), {"x": None, "y": 9})
        self.assertEqual(run.feed({"a": 0, "c": True}), {"x": 1, "y": None})
        # The first in the module's order, whichever was handed in first.
        self.refused(run, "a", {"c": 1, "a": True})

    def test_lots_have_numbers(self):
        run = Run(book_of(SPLIT), "s")
        self.refused(run, "a", {"a": True, "c": True})
        self.assertEqual(run.feed({"a": 1, "c": True}), {"x": 1, "y": None})

    def test_there_and_not_there(self):
        run = Run(book_of(DEEP), "m")
        self.assertEqual(run.feed({"c": True, "d": True, "e": 5}), {"x": 5})
        self.assertEqual(run.feed({"c": True, "d": False, "e": None}), {"x": 0})
        self.assertEqual(run.feed({"c": False, "d": None, "e": None}), {"x": 1})
        self.refused(run, "e", {"c": True, "d": True, "e": None})
        self.refused(run, "e", {"c": True, "d": False, "e": 5})
        self.refused(run, "d", {"c": True, "d": None, "e": None})
        self.refused(run, "d", {"c": False, "d": True, "e": None})
        self.refused(run, "e", {"c": False, "d": True, "e": 5})
        self.refused(run, "c", {"c": None, "d": None, "e": None})

    def test_conditions_on_what_is_refused_itself(self):
        run = Run(book_of(DEEP), "m")
        self.refused(run, "c", {"c": 1, "d": None, "e": None})
        self.refused(run, "d", {"c": 1, "d": True, "e": None})
        self.refused(run, "e", {"c": 1, "d": True, "e": 5})
        self.refused(run, "e", {"c": True, "d": 1, "e": 5})
        self.refused(run, "d", {"c": True, "d": 1, "e": None})
        self.refused(run, "e", {"d": True, "e": 5})
        self.refused(run, "d", {"d": True, "e": None})
        self.refused(run, "c", {"d": None, "e": None})
        self.refused(run, "d", {"c": True, "e": None})
        run = Run(book_of("MODULE m (a, c) OUT (x)\nx = (MERGE c 1 a)"), "m")
        self.refused(run, "c", {"a": None, "c": 0})
        self.refused(run, "a", {"a": 4, "c": 0})
        self.assertEqual(run.feed({"a": 4, "c": False}), {"x": 4})

    def test_no_ins(self):
        run = Run(book_of("MODULE m () OUT (x)\nx = (0 THEN (x + 1))"), "m")
        self.assertEqual([run.feed({})["x"] for _ in range(3)], [0, 1, 2])
        self.refused(run, "x", {"x": 3})


class Runs(unittest.TestCase):
    def test_flows(self):
        run = Run(book_of(COUNT, "MODULE m (c, a) OUT (y)\nx = (a WHEN c)\ny = n(a)\nv, w = s(a, c)", SPLIT), "m")
        self.assertEqual(run.flows(), [])
        run.feed({"a": 5, "c": True})
        told = [("c", True), ("a", 5), ("x", 5), ("y", 0), ("v", 5), ("w", None)]
        self.assertEqual(run.flows(), told)
        with self.assertRaises(NoBeat):
            run.feed({})
        self.assertEqual(run.flows(), told)
        run.feed({"a": 6, "c": False})
        self.assertEqual(run.flows(), [("c", False), ("a", 6), ("x", None), ("y", 5), ("v", None), ("w", 6)])
        run.back()
        self.assertEqual(run.flows(), told)
        run.back()
        self.assertEqual(run.flows(), [])

    def test_back(self):
        run = Run(book_of(COUNT), "n")
        told = [run.feed({"a": at})["x"] for at in range(6)]
        self.assertEqual(told, [0, 0, 1, 3, 6, 10])
        for many in (7, -1, -10, 10 ** 29):
            with self.assertRaises(NoBack):
                run.back(many)
            self.assertEqual(len(run), 6)
        run.back(0)
        self.assertEqual(len(run), 6)
        run.back()
        self.assertEqual(len(run), 5)
        self.assertEqual(run.feed({"a": 7}), {"x": 10})
        run.back(many=4)
        self.assertEqual((len(run), run.feed({"a": 1})), (2, {"x": 1}))
        run.back(3)
        self.assertEqual((len(run), run.flows(), run.state()), (0, [], [((), (0, ()), 0)]))
        with self.assertRaises(NoBack):
            run.back()
        run.back(0)
        self.assertEqual(run.feed({"a": 1}), {"x": 0})

    def test_back_over_many(self):
        book = Grower(3, rows=6, deep=4).book(3)
        name = book.modules()[-1][0]
        beats = history(5, book, name, 40)
        run = Run(book, name)
        held = [(run.state(), run.flows())]
        for beat in beats:
            run.feed(beat)
            held.append((run.state(), run.flows()))
        chance = Random(1)
        while len(run):
            many = chance.randrange(min(5, len(run)) + 1)
            at = len(run) - many
            run.back(many)
            self.assertEqual(((run.state(), run.flows()), len(run)), (held[at], at))

    def test_copies_are_apart(self):
        run = Run(book_of(COUNT), "n")
        run.feed({"a": 1})
        run.feed({"a": 2})
        other = run.copy()
        self.assertEqual((other.flows(), other.state(), len(other)), (run.flows(), run.state(), 2))
        run.feed({"a": 10})
        self.assertEqual(other.feed({"a": 20}), {"x": 3})
        self.assertEqual((run.feed({"a": 0}), other.feed({"a": 0})), ({"x": 13}, {"x": 23}))
        other.back(3)
        self.assertEqual((len(run), len(other), other.feed({"a": 5})), (4, 1, {"x": 1}))
        run.back(4)
        self.assertEqual((len(run), len(other), other.feed({"a": 0})), (0, 2, {"x": 6}))
        self.assertIsInstance(other, Run)
        self.assertEqual(len(Run(book_of(COUNT), "n").copy()), 0)

    def test_what_is_told_or_handed_in_may_be_changed(self):
        modules = read_modules(COUNT)
        book = Book(modules)
        state = [((), (0, ()), 5)]
        run = Run(book, "n", state=state)
        state.clear()
        modules[0][3].clear()
        beat = {"a": 3}
        told = run.feed(beat)
        beat["a"] = 9
        told["x"] = 100
        for some in (run.flows(), run.state()):
            some.clear()
        self.assertEqual(run.flows(), [("a", 3), ("x", 5)])
        self.assertEqual(run.state(), [((), (0, ()), 8)])
        copy_of = copy.deepcopy(book.modules())
        run.feed({"a": 1})
        self.assertEqual(book.modules(), copy_of)

    def test_refused(self):
        with self.assertRaises(NoName):
            Run(book_of(COUNT), "m", state=[None])
        with self.assertRaises(NoFace) as caught:
            Run(book_of("MODULE m (a) OUT (x)\nx = (x + a)"), "m", state=[None])
        self.assertEqual(caught.exception.paper, ("ring", ["x"]))
        run = Run(name="n", book=book_of(COUNT), state=())
        self.assertEqual(run.feed(ins={"a": 1}), {"x": 0})


class States(unittest.TestCase):
    TEXTS = (COUNT, "MODULE k (a) OUT (x)\nb = (BEATS 1(10))\nx = n((a + (TRUE THEN b)))".replace("(TRUE THEN b)", "y") +
             "\ny = (IF b THEN 1 ELSE 2)",
             "MODULE m (a) OUT (x)\nx = k((5 THEN (a + (6 THEN a))))\nz = ((TRUE THEN z) OR (BEATS (0)))\ny = k(a)")
    SPOTS = [((), (0, (0,))), ((), (0, (0, 0, 1))), ((0,), (0, ())), ((0, 1), (0, ())), ((), (1, (0,))), ((), (1, (1,))),
             ((2,), (0, ())), ((2, 1), (0, ()))]

    def run_with(self, state):
        return Run(book_by(10, *self.TEXTS), "m", state=state)

    def test_order(self):
        run = self.run_with(())
        worths = [5, 6, 0, 0, True, 0, 0, 0]
        self.assertEqual(run.state(), [spot + (worth,) for spot, worth in zip(self.SPOTS, worths)])
        self.assertEqual(repr([worth for _, _, worth in run.state()]), repr(worths))
        run.feed({"a": 3})
        told = run.state()
        self.assertEqual([line[:2] for line in told], self.SPOTS)
        self.assertEqual([worth for _, _, worth in told], [9, 3, 1, 6, True, 1, 1, 4])

    def test_a_then_begins_by_the_measure(self):
        run = Run(book_by(10, "MODULE m () OUT (x)\nx = (123 THEN 5)"), "m")
        self.assertEqual(run.state(), [((), (0, ()), 3)])

    def test_a_run_goes_on_from_a_state(self):
        for seed in range(40):
            book = Book(Grower(seed, rows=5, deep=4).book(1 + seed % 4).modules(), measure=50)
            name = book.modules()[-1][0]
            beats = history(seed, book, name, 12)
            run = Run(book, name)
            for at, beat in enumerate(beats):
                other = Run(book, name, state=tuple(run.state()) if at % 2 else run.state())
                self.assertEqual(other.state(), run.state())
                self.assertEqual((len(other), other.flows()), (0, []))
                for later in beats[at:at + 4]:
                    self.assertEqual(other.feed(later), run.feed(later))
                run.back(len(beats[at:at + 4]))
                run.feed(beat)

    def test_a_part_of_a_state(self):
        run = self.run_with([((2, 1), (0, ()), 9), ((), (0, (0,)), 7)])
        self.assertEqual([worth for _, _, worth in run.state()], [7, 6, 0, 0, True, 0, 0, 9])
        run = self.run_with(run.state()[::-1])
        self.assertEqual([worth for _, _, worth in run.state()], [7, 6, 0, 0, True, 0, 0, 9])

    def test_counts_of_any_size(self):
        run = self.run_with([((2,), (0, ()), 10 ** 29)])
        self.assertEqual(run.state()[6], ((2,), (0, ()), 10 ** 29))
        run.feed({"a": 1})
        self.assertEqual(run.state()[6], ((2,), (0, ()), 10 ** 29 + 1))
        book = book_of("MODULE m () OUT (x)\nx = (BEATS 00(110))")
        for count, told in ((0, False), (2, True), (4, False), (2 + 3 * 10 ** 28, True), (4 + 3 * 10 ** 28, False)):
            self.assertIs(Run(book, "m", state=[((), (0, ()), count)]).feed({})["x"], told)

    def test_refused(self):
        fine = [((), (0, (0,)), 7), ((0, 1), (0, ()), 9), ((), (1, (1,)), 3), ((), (1, (0,)), False)]
        self.run_with(fine)
        wrong = [
            # No such way, ways through rows that are no calls, ways that are none.
            ((1,), (0, ()), 0), ((0, 0), (0, ()), 0), ((3,), (0, ()), 0), ((-1,), (0, ()), 0), ((0, 1, 0), (0, ()), 0),
            ([0], (0, ()), 0), ((False,), (0, ()), 0), ((0, True), (0, ()), 0), (0, (0, ()), 0), ("0", (0, ()), 0),
            # Places that hold nothing.
            ((), (0, ()), 0), ((), (0, (0, 0)), 0), ((), (1, ()), True), ((), (7, ()), 0), ((), (0, (3,)), 0),
            ((), (-3, (0,)), 0), ((), "x", 0), ((), (0, [0]), 0), ((), (False, (0,)), 0), ((), (0, (False,)), 0),
            ((), (0, 0), 0), ((), (0,), 0), ((), None, 0),
            # Worths.
            ((2, 1), (0, ()), True), ((2, 1), (0, ()), 10), ((2, 1), (0, ()), -1), ((2, 1), (0, ()), None),
            ((2, 1), (0, ()), "1"), ((2, 1), (0, ()), [1]), ((2,), (0, ()), -1), ((2,), (0, ()), True),
            ((2,), (0, ()), None), ((2,), (0, ()), "1"), ((2,), (0, ()), ()),
            # Forms.
            ((2,), (0, ())), ((2,), (0, ()), 0, 0), [(2,), (0, ()), 0],
        ] + fine + list(ANYTHING)
        for thing in wrong:
            for at in (0, 2, 4):
                state = fine[:at] + [thing] + fine[at:]
                told = at
                if thing in fine:
                    told = max(at, fine.index(thing) + (1 if at <= fine.index(thing) else 0))
                with self.assertRaises(NoState) as caught:
                    self.run_with(state)
                self.assertEqual(caught.exception.at, told, thing)
        for thing in (1, 0, None, "x", 7):
            with self.assertRaises(NoState) as caught:
                self.run_with([((), (1, (0,)), thing)])
            self.assertEqual(caught.exception.at, 0)


if __name__ == "__main__":
    unittest.main()
