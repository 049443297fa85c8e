"""Loops woven, and ifs put together (29, 30)."""

import copy
import time
import unittest
from random import Random

from clockloom.errors import NoLoop
from clockloom.flat import flat
from clockloom.fusing import few_ifs, fused, gathered, if_count
from clockloom.loops import loop_judged
from clockloom.looms import woven
from tests.growing import Grower
from tests.making import ANYTHING, SPLIT, book_of
from tests.wildloom import all_steps, begins_of, fewest, wild_loop, wild_track

# x and y are over c, there and here; v is over c and x.
TEXT = """MODULE m (a, c) OUT (z)
x = (TRUE WHEN c)
y = (a UNLESS c)
v = ((a WHEN c) WHEN x)
u = (FALSE UNLESS x)
z = (a + 1)"""


def track_of(loop):
    """The track of a loop."""
    return [step for _, step, _ in all_steps(loop[1]) if step[0] != "if"]


def ifs_of(loop):
    """The ifs of a loop."""
    return [step for _, step, _ in all_steps(loop[1]) if step[0] == "if"]


def grown(seed):
    """A flat module, by a seed."""
    book = Grower(seed, rows=4 + seed % 6, deep=2 + seed % 4).book(1 + seed % 3)
    return flat(book, book.modules()[-1][0])


class Woven(unittest.TestCase):
    def test_right_and_no_if_empty(self):
        found = {}
        for seed in range(80):
            told = grown(seed)
            for loop in (woven(told, measure=20), gathered(told, measure=20)):
                self.assertIsNone(loop_judged(told, loop, measure=20))
                self.assertEqual([step for step in ifs_of(loop) if not step[2] and not step[3]], [])
                found.update({step[0]: True for _, step, _ in all_steps(loop[1])})
                found[max(len(conditions) for _, _, conditions in all_steps(loop[1]))] = True
                self.assertEqual(dict(loop[0]), begins_of(told, 20))
        self.assertLessEqual({"set", "keep", "go", "if", 0, 1, 2, 3}, set(found))

    def test_by_hand(self):
        told = flat(book_of("MODULE m (a) OUT (x)\nx = (3 THEN (x + a))"), "m")
        cells, steps = woven(told)
        self.assertEqual(cells, [("x", 3)])
        self.assertEqual(sorted(steps), [("keep", "x", ("flow", "0-0")), ("set", "0-0", ("sum", ("flow", "x"), ("flow", "a"))),
                                         ("set", "x", ("cell", "x"))])
        self.assertEqual(woven(measure=2, flat=told)[0], [("x", 1)])
        self.assertEqual(gathered(measure=2, flat=told)[0], [("x", 1)])
        self.assertEqual(woven(([], [], [])), ([], []))

    def test_told_anew(self):
        told = flat(book_of(TEXT), "m")
        held_flat = copy.deepcopy(told)
        for weaver in (woven, gathered, lambda some: fused(some, woven(some))):
            held = copy.deepcopy(weaver(told))
            loop = weaver(told)
            for step in ifs_of(loop):
                step[2].append(("go", "q"))
                step[3].clear()
            loop[0].append(None)
            loop[1].clear()
            self.assertEqual(weaver(told), held)
            self.assertEqual(told, held_flat)


class Fused(unittest.TestCase):
    def test_of_what_others_wove(self):
        fewer = 0
        for seed in range(80):
            told = grown(seed)
            loop = wild_loop(seed, told, begins_of(told, 20))
            held = copy.deepcopy(loop)
            other = fused(told, loop, measure=20)
            self.assertEqual(loop, held)
            self.assertIsNone(loop_judged(told, other, measure=20))
            self.assertEqual(repr(other[0]), repr(loop[0]))
            self.assertEqual(track_of(other), track_of(loop))
            self.assertEqual([step for step in ifs_of(other) if not step[2] and not step[3]], [])
            conditions_of = {x: conditions for x, _, conditions in told[2]}
            least = fewest([conditions_of[step[1]] for step in track_of(loop)])
            self.assertEqual((if_count(other), few_ifs(told, track_of(loop))), (least, least))
            fewer += if_count(other) < if_count(loop)
            self.assertEqual(fused(told, other, measure=20), other)
        self.assertGreater(fewer, 40)

    def test_by_hand(self):
        told = flat(book_of(TEXT), "m")
        sets = {x: ("set", x, deed[1] if deed[0] == "when" else deed) for x, deed, _ in told[2]}

        def on(c, *steps):
            return ("if", c, list(steps), [])

        def off(c, *steps):
            return ("if", c, [], list(steps))

        loop = ([], [on("c", sets["x"]), off("c"), on("c", sets["2-0"], on("x", sets["v"])), on("c", off("x", sets["u"])),
                     off("c", sets["y"]), sets["z"]])
        self.assertEqual(fused(told, loop), ([], [
            ("if", "c", [sets["x"], sets["2-0"], ("if", "x", [sets["v"]], [sets["u"]])], [sets["y"]]), sets["z"]]))
        # What is told false first is left for what is told true.
        loop = ([], [off("c", sets["y"]), on("c", sets["x"], off("x", sets["u"])), on("c", sets["2-0"]),
                     on("c", on("x", sets["v"])), sets["z"]])
        self.assertEqual(fused(loop=loop, flat=told), ([], [
            ("if", "c", [], [sets["y"]]),
            ("if", "c", [sets["x"], ("if", "x", [], [sets["u"]]), sets["2-0"], ("if", "x", [sets["v"]], [])], []), sets["z"]]))
        self.assertEqual((if_count(loop), if_count(fused(told, loop))), (6, 4))
        # From one list to the other, and deeper there.
        text = "MODULE m (a, c, d) OUT (z)\nx = (TRUE WHEN c)\ny = (d UNLESS c)\nv = ((a UNLESS c) WHEN y)\nz = (a + 1)"
        told = flat(book_of(text), "m")
        sets = {x: ("set", x, deed[1] if deed[0] == "when" else deed) for x, deed, _ in told[2]}
        loop = ([], [off("c", sets["y"], sets["2-0"]), on("c", sets["x"]), off("c", on("y", sets["v"])), sets["z"]])
        self.assertEqual(fused(told, loop), ([], [
            ("if", "c", [], [sets["y"], sets["2-0"]]), ("if", "c", [sets["x"]], [("if", "y", [sets["v"]], [])]), sets["z"]]))

    def test_cells_are_told_anew(self):
        told = flat(book_of("MODULE m () OUT (x)\nx = (9 THEN 1)"), "m")
        loop = woven(told)
        fused(told, loop)[0].clear()
        self.assertEqual(loop[0], [("x", 9)])

    def test_refused(self):
        told = flat(book_of(TEXT), "m")
        for thing in ANYTHING + (([], []), ([("x", 0)], []), ([], [("go", "x")]), ([], [("if", "c", [("go", "x")], [])])):
            with self.assertRaises(NoLoop) as caught:
                fused(told, thing)
            self.assertEqual(caught.exception.wrong, loop_judged(told, thing))
        told = flat(book_of("MODULE m () OUT (x)\nx = (9 THEN 1)"), "m")
        self.assertEqual(fused(told, woven(told, measure=5), measure=5), woven(told, measure=5))
        with self.assertRaises(NoLoop):
            fused(told, woven(told, measure=5))


class Counts(unittest.TestCase):
    def test_if_count(self):
        one, go = ("if", "c", [], []), ("go", "x")
        for steps, told in (
            ([], 0), ([go], 0), ([one], 1), ([go, one, one], 2), ([("if", "c", [one, go], [one, ("if", "d", [go], [one])])], 5),
        ):
            self.assertEqual(if_count(([], steps)), told)
            self.assertEqual(if_count(loop=([("x", 0)], steps)), told)

    def test_few_ifs(self):
        told = flat(book_of(TEXT), "m")
        sets = {x: ("set", x, None) for x, _, _ in told[2]}
        for names, many in (
            ("", 0), ("z", 0), ("x", 1), ("v", 2), ("zxz", 1), ("xx", 1), ("xzx", 2), ("xy", 1), ("yx", 2), ("xyx", 2), ("vu", 2),
            ("uv", 3), ("xv", 2), ("vx", 2), ("vxu", 3), ("xvuy", 2), ("vy", 2), ("yv", 3), ("yvy", 3), ("uvz", 3), ("vxvx", 3),
            ("yvuyv", 5),
        ):
            self.assertEqual(few_ifs(told, [sets[x] for x in names]), many, names)
        self.assertEqual(few_ifs(track=[("go", "x"), ("keep", "y", ("num", 1))], flat=told), 1)

    def test_few_ifs_as_a_slow_search_tells(self):
        for seed in range(60):
            told = grown(seed)
            conditions_of = {x: conditions for x, _, conditions in told[2]}
            for turn in range(3):
                track = wild_track(seed + 500 * turn, told)
                self.assertEqual(few_ifs(told, track), fewest([conditions_of[step[1]] for step in track]))
                track = Random(seed).sample(track, len(track) // 2)
                self.assertEqual(few_ifs(told, track), fewest([conditions_of[step[1]] for step in track]))

    def test_from_true_to_false_and_deeper(self):
        text = "MODULE m (a, c, d) OUT (z)\nx = (a WHEN c)\ny = (d UNLESS c)\nv = ((a UNLESS c) WHEN y)\nz = (a + 1)"
        told = flat(book_of(text), "m")
        sets = {x: ("set", x, None) for x, _, _ in told[2]}
        for names, many in (("xv", 2), ("vx", 3), ("xyv", 2), ("xvy", 2), ("yxv", 3)):
            self.assertEqual(few_ifs(told, [sets[x] for x in names]), many, names)


class Gathered(unittest.TestCase):
    def test_no_more_ifs_than_the_woven_one(self):
        fewer = 0
        for seed in range(120):
            told = grown(seed)
            loop, other = gathered(told), fused(told, woven(told))
            self.assertLessEqual(if_count(loop), if_count(other))
            self.assertEqual(if_count(loop), few_ifs(told, track_of(loop)))
            self.assertEqual(fused(told, loop), loop)
            fewer += if_count(loop) < if_count(other)
        self.assertGreater(fewer, 20)

    def test_where_the_order_of_rows_is_hard_to_beat(self):
        # By going on where one stands, the first row over e would be told ahead of what the other one needs.
        text = "MODULE m () OUT (e)\ne = TRUE\nf = e\ng = ((MERGE f 7 (1 - 2)) WHEN e)\nh = (1 WHEN e)"
        told = flat(book_of(text), "m")
        self.assertEqual((if_count(woven(told)), if_count(gathered(told))), (2, 2))

    def test_first_lists_go_ahead(self):
        text = "MODULE m (c, d) OUT (x)\nx = (MERGE c (MERGE d 7 (3 THEN (4 UNLESS d))) (5 UNLESS c))\ny = (1 UNLESS c)"
        self.assertEqual(if_count(gathered(flat(book_of(text), "m"))), 2)

    def test_few_ifs_by_hand(self):
        for rows, plain, few in (
            ("y = (1 UNLESS c)\nx = (a WHEN c)", 2, 1),
            ("x = (a WHEN c)\nz = (MERGE c x 0)\ny = (1 UNLESS c)", 2, 1),
            ("x = (a WHEN c)\ny = (1 UNLESS c)\nz = (2 WHEN c)\nv = (3 UNLESS c)\nu = (a + 1)", 2, 1),
            ("x = (a WHEN c)\nu = (a + 1)\nz = (2 WHEN c)", 2, 1),
            ("x = (d WHEN c)\ny = (1 WHEN x)\nu = (a + 1)\nz = (2 UNLESS c)\nv = (3 UNLESS x)", 5, 2),
        ):
            told = flat(book_of("MODULE m (a, c, d) OUT (t)\nt = (a + 1)\n" + rows), "m")
            self.assertEqual((if_count(woven(told)), if_count(gathered(told))), (plain, few), rows)

    def test_rows_at_the_same_conditions_come_together(self):
        calls = "\n".join(f"x{y}, y{y} = s(a, c)" for y in "abcdefgh")
        told = flat(book_of(SPLIT, "MODULE m (a, c) OUT (xa, ya)\n" + calls), "m")
        self.assertEqual(if_count(gathered(told)), 1)

    def test_told_soon(self):
        rows = [f"c{one}{other} = (BEATS (1))\nx{one}{other} = (1 WHEN c{one}{other})" for one in "abc" for other in "abcdefghi"]
        calls = [f"z{one}{other} = n()" for one in "abcd" for other in "abcdefghi"]
        book = book_of("MODULE n () OUT (caa)\n" + "\n".join(rows), "MODULE m () OUT (zaa)\n" + "\n".join(calls))
        told = flat(book, "m")
        self.assertEqual(len(told[2]), 1944)
        begin = time.monotonic()
        loop = gathered(told)
        self.assertEqual(if_count(fused(told, loop)), 36 * 27)
        self.assertLess(time.monotonic() - begin, 10)

    def test_told_soon_within_many_ifs(self):
        # Many lists in which rows are ready, all of them hundreds of ifs within one another.
        names = [one + other for one in "bdefg" for other in "abcdefghij"]
        chain = "\n".join(f"{x} = (TRUE WHEN {y})" for x, y in zip(names, ["c"] + names))
        wide = "\n".join(f"c{x} = (BEATS (1))\nx{x} = (1 WHEN c{x})" for x in names[:24])
        texts = ["MODULE na (c) OUT (z)\nz = c\n" + wide,
                 "MODULE nb (c) OUT (z)\nz = c\n" + "\n".join(f"v{x} = na(c)" for x in names[:30])]
        for name, below in zip(["m" + x for x in "abcdefghi"], ["nb"] + ["m" + x for x in "abcdefgh"]):
            texts.append(f"MODULE {name} (c) OUT (z)\nz = c\n{chain}\nv = {below}((TRUE WHEN {names[-1]}))")
        told = flat(book_of(*texts), "mi")
        self.assertEqual((len(told[2]), max(len(conditions) for _, _, conditions in told[2])), (1939, 460))
        begin = time.monotonic()
        self.assertEqual(if_count(gathered(told)), 459 + 24 * 30)
        self.assertLess(time.monotonic() - begin, 5)


if __name__ == "__main__":
    unittest.main()
