"""Loops that go (28)."""

import time
import unittest

from clockloom.books import Book
from clockloom.errors import NoBeat, NoLoop
from clockloom.flat import flat
from clockloom.fusing import fused, gathered
from clockloom.loops import loop_judged
from clockloom.looms import woven
from clockloom.machines import Machine
from clockloom.teller import Run
from tests.growing import Grower, history
from tests.making import ANYTHING, book_of
from tests.wildloom import all_steps, begins_of, wild_loop

COUNT = "MODULE n (a) OUT (x)\nx = (7 THEN (x + a))"
TEXT = "MODULE m (a, c) OUT (x, y, w)\nx = ((a + 1) WHEN c)\ny = (TRUE THEN (x < 3))\nw = (BEATS 0(10))"
ONE, TWO = ("set", "0-0", ("sum", ("flow", "a"), ("num", 1))), ("set", "x", ("flow", "0-0"))
THREE, FOUR = ("set", "y", ("cell", "y")), ("set", "1-0", ("below", ("flow", "x"), ("num", 3)))
KEEP, SET, GO = ("keep", "y", ("flow", "1-0")), ("set", "w", ("sign", "w")), ("go", "w")
CELLS = [("w", 0), ("y", True)]


def on(*steps):
    """An if by c."""
    return ("if", "c", list(steps), [])


def slow_done(steps, worth_of):
    """How many steps are done where the truths of ifs are these."""
    told = 0
    for step in steps:
        told += 1
        if step[0] == "if":
            told += slow_done(step[2 if worth_of[step[1]] else 3], worth_of)
    return told


class Goes(unittest.TestCase):
    def test_as_a_run_by_loops_of_several_weavers(self):
        for seed in range(60):
            measure = (2, 10, 10 ** 12)[seed % 3]
            book = Book(Grower(seed, rows=4 + seed % 6, deep=2 + seed % 4).book(1 + seed % 4).modules(), measure=measure)
            name = book.modules()[-1][0]
            told = flat(book, name)
            begins = begins_of(told, measure)
            loops = [woven(told, measure=measure), gathered(told, measure=measure), wild_loop(seed, told, begins),
                     wild_loop(seed + 1000, told, begins)]
            loops.append(fused(told, loops[2], measure=measure))
            machines = [Machine(told, loop, measure=measure) for loop in loops]
            run = Run(book, name)
            for beat in history(seed, book, name, 12):
                expected = run.feed(beat)
                for machine, loop in zip(machines, loops):
                    self.assertEqual(repr(machine.feed(beat)), repr(expected))
                    self.assertEqual([x for x, _ in machine.cells()], [x for x, _ in loop[0]])
                states = {tuple(sorted(machine.cells())) for machine in machines}
                self.assertEqual(len(states), 1)
            self.assertEqual({len(machine) for machine in machines}, {12})

    def test_by_hand(self):
        told = flat(book_of(TEXT), "m")
        machine = Machine(told, (CELLS, [ONE, on(TWO, THREE, FOUR, KEEP), SET, GO]))
        self.assertEqual((len(machine), machine.done(), machine.cells()), (0, 0, CELLS))
        for at, (a, c, outs, done, cells) in enumerate((
            (1, True, {"x": 2, "y": True, "w": False}, 8, [("w", 1), ("y", True)]),
            (9, False, {"x": None, "y": None, "w": True}, 4, [("w", 2), ("y", True)]),
            (5, True, {"x": 6, "y": True, "w": False}, 8, [("w", 1), ("y", False)]),
            (2, True, {"x": 3, "y": False, "w": True}, 8, [("w", 2), ("y", False)]),
            (1, True, {"x": 2, "y": False, "w": False}, 8, [("w", 1), ("y", True)]),
        )):
            self.assertEqual(repr(machine.feed({"c": c, "a": a})), repr(outs))
            self.assertEqual((machine.done(), repr(machine.cells()), len(machine)), (done, repr(cells), at + 1))

    def test_done_counts_ifs_of_empty_lists_too(self):
        told = flat(book_of(TEXT), "m")
        for steps, yes, no in (
            ([ONE, on(TWO), on(THREE, FOUR), on(KEEP), SET, GO], 10, 6),
            ([ONE, on(), on(TWO, THREE, FOUR, KEEP), ("if", "c", [], []), SET, GO], 10, 6),
            ([("if", "a", [], []), ONE, on(TWO, ("if", "x", [], []), THREE, ("if", "y", [], []), FOUR, KEEP), SET, GO], 11, 5),
        ):
            machine = Machine(told, (CELLS, steps))
            for beat, done in (({"a": 1, "c": True}, yes), ({"a": 0, "c": False}, no), ({"a": 0, "c": True}, yes)):
                machine.feed(beat)
                self.assertEqual(machine.done(), done, steps)

    def test_done_of_many(self):
        for seed in range(30):
            book = Book(Grower(seed, rows=6, deep=4).book(2).modules(), measure=50)
            name = book.modules()[-1][0]
            told = flat(book, name)
            loop = wild_loop(seed, told, begins_of(told, 50))
            outs = [(x, x) for x in dict.fromkeys(step[1] for _, step, _ in all_steps(loop[1]) if step[0] == "if")]
            machine = Machine((told[0], outs, told[2]), loop, measure=50)
            for beat in history(seed, book, name, 8):
                self.assertEqual(slow_done(loop[1], machine.feed(beat)), machine.done())

    def test_second_lists(self):
        told = flat(book_of("MODULE m (a, c) OUT (x)\nx = (MERGE c (a WHEN c) ((a + 1) UNLESS c))"), "m")
        first, ahead, second = [("set", x, deed) for x, deed in (
            ("0-0", ("flow", "a")), ("0-1-0", ("sum", ("flow", "a"), ("num", 1))), ("0-1", ("flow", "0-1-0")))]
        last = ("set", "x", ("merge", "c", ("flow", "0-0"), ("flow", "0-1")))
        machine = Machine(told, ([], [ahead, ("if", "c", [first], [second]), last]))
        self.assertEqual([machine.feed({"a": 5, "c": c})["x"] for c in (True, False, True)], [5, 6, 5])
        self.assertEqual((machine.done(), machine.cells()), (4, []))

    def test_beats_come_again(self):
        told = flat(book_of("MODULE m () OUT (x)\nx = (BEATS 110(001))"), "m")
        machine = Machine(told, woven(told))
        places = []
        for _ in range(10):
            places.append((machine.cells()[0][1], machine.feed({})["x"]))
        self.assertEqual(places, [(0, True), (1, True), (2, False), (3, False), (4, False), (5, True), (3, False), (4, False),
                                  (5, True), (3, False)])

    def test_by_the_measure(self):
        told = flat(book_of(COUNT), "n")
        machine = Machine(measure=5, loop=woven(told, measure=5), flat=told)
        self.assertEqual([machine.feed(ins={"a": 4})["x"] for _ in range(4)], [2, 1, 0, 4])
        with self.assertRaises(NoBeat):
            machine.feed({"a": 5})
        with self.assertRaises(NoLoop) as caught:
            Machine(told, woven(told, measure=5))
        self.assertEqual(caught.exception.wrong, ("cells",))

    def test_no_loop(self):
        told = flat(book_of(TEXT), "m")
        for thing in ANYTHING + ((CELLS, [ONE, TWO]), (CELLS, []), (CELLS[:1], []), (CELLS, [ONE, on(TWO, on(THREE))])):
            with self.assertRaises(NoLoop) as caught:
                Machine(told, thing)
            self.assertEqual(caught.exception.wrong, loop_judged(told, thing))

    def test_told_soon(self):
        rows = [f"y{one}{other} = (0 THEN (y{one}{other} + a))" for one in "abcd" for other in "abcdefghij"]
        calls = [f"z{one}{other} = n(a)" for one in "abcd" for other in "abcdef"]
        book = book_of("MODULE n (a) OUT (yaa)\n" + "\n".join(rows), "MODULE m (a) OUT (zaa)\n" + "\n".join(calls))
        told = flat(book, "m")
        self.assertEqual(len(told[2]), 24 * 80)
        begin = time.monotonic()
        machine = Machine(told, gathered(told))
        for at in range(200):
            self.assertEqual(machine.feed({"a": 2}), {"zaa": 2 * at})
            machine = machine.copy()
        self.assertLess(time.monotonic() - begin, 10)


class Refused(unittest.TestCase):
    def test_as_a_run(self):
        text = "MODULE m (e, d, c, n) OUT (x, z)\nx = (MERGE c (MERGE d e 0) 1)\nz = (0 THEN (z + n))"
        book = book_of(text)
        told = flat(book, "m")
        machine, run = Machine(told, woven(told)), Run(book, "m")
        for beat in ({"c": True, "d": True, "e": 1, "n": 5}, {"c": False, "d": None, "e": None, "n": 5}):
            self.assertEqual(machine.feed(beat), run.feed(beat))
        held = (machine.cells(), machine.done(), len(machine))
        worths = (True, False, None, 0, 1, 2 ** 31 - 1, -1, "1", [], ())
        for c in worths[:5] + ("off",):
            for d in worths[:3] + (1, "off"):
                for e in worths[:7] + ("off", []):
                    for more in ({}, {"n": 1}, {"n": None}, {"n": 2, "q": None}, {"n": 2, "b": 1, "aa": 2}):
                        beat = {x: worth for x, worth in (("c", c), ("d", d), ("e", e)) if worth != "off"}
                        beat.update(more)
                        try:
                            run.feed(beat)
                        except NoBeat as refused:
                            with self.assertRaises(NoBeat) as caught:
                                machine.feed(beat)
                            self.assertEqual(caught.exception.name, refused.name)
                            self.assertEqual((machine.cells(), machine.done(), len(machine)), held)
                        else:
                            run.back()
                            machine.copy().feed(beat)
        self.assertEqual(machine.feed({"c": True, "d": False, "e": None, "n": 1}), {"x": 0, "z": 10})


class Apart(unittest.TestCase):
    def test_copies(self):
        told = flat(book_of(COUNT), "n")
        machine = Machine(told, woven(told))
        machine.feed({"a": 1})
        other = machine.copy()
        self.assertIsInstance(other, Machine)
        self.assertEqual((other.cells(), other.done(), len(other)), (machine.cells(), machine.done(), 1))
        machine.feed({"a": 10})
        self.assertEqual((other.feed({"a": 20}), other.feed({"a": 0})), ({"x": 8}, {"x": 28}))
        self.assertEqual((machine.cells(), len(machine)), ([("x", 18)], 2))
        self.assertEqual((other.cells(), len(other)), ([("x", 28)], 3))
        with self.assertRaises(NoBeat) as caught:
            other.feed({})
        self.assertEqual(caught.exception.name, "a")
        self.assertEqual(other.copy().copy().feed({"a": 0}), {"x": 28})
        self.assertEqual(len(Machine(told, woven(told)).copy()), 0)

    def test_a_copy_keeps_the_measure(self):
        told = flat(book_of(COUNT), "n")
        machine = Machine(told, woven(told, measure=5), measure=5).copy()
        with self.assertRaises(NoBeat):
            machine.feed({"a": 5})
        self.assertEqual([machine.feed({"a": 4})["x"] for _ in range(3)], [2, 1, 0])

    def test_what_is_told_or_handed_in_may_be_changed(self):
        book = book_of(TEXT)
        told = flat(book, "m")
        loop = (list(CELLS), [ONE, on(TWO, THREE, FOUR, KEEP), SET, GO])
        machine, run = Machine(told, loop), Run(book, "m")
        for some in (*told, loop[0], loop[1][1][2], loop[1]):
            some.clear()
        for beat in ({"a": 1, "c": True}, {"a": 7, "c": True}, {"a": 1, "c": False}, {"a": 1, "c": True}):
            expected = run.feed(beat)
            outs = machine.feed(beat)
            self.assertEqual(outs, expected)
            outs.clear()
            machine.cells().clear()
        self.assertEqual(machine.cells(), [("w", 2), ("y", True)])


if __name__ == "__main__":
    unittest.main()
