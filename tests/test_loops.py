"""The judge of loops (26, 27)."""

import unittest
from random import Random

from clockloom.flat import flat
from clockloom.fusing import fused, gathered
from clockloom.loops import loop_judged
from clockloom.looms import woven
from tests.growing import Grower
from tests.making import ANYTHING, book_of
from tests.wildloom import all_steps, begins_of, slow_judged, wild_loop

# x, y and z are over c, v over c and y, u over c and not y.
TEXT = """MODULE m (a, c) OUT (w)
x = ((a + 1) WHEN c)
y = (TRUE THEN (x < 3))
z = (BEATS 0(1))
v = (x WHEN y)
u = (7 UNLESS y)
w = (MERGE c (MERGE y v u) (a UNLESS c))
t = (IF z THEN x ELSE 0)"""


class Judged(unittest.TestCase):
    def setUp(self):
        self.flat = flat(book_of(TEXT), "m")
        self.cells, steps = woven(self.flat)
        self.steps = steps

    def told(self, steps, cells=None):
        return loop_judged(self.flat, (self.cells if cells is None else cells, steps))


class Looms(unittest.TestCase):
    def test_what_is_woven_fused_and_gathered(self):
        for seed in range(60):
            book = Grower(seed, rows=4 + seed % 6, deep=2 + seed % 4).book(1 + seed % 3)
            name = book.modules()[-1][0]
            measure = (2, 10, 10 ** 12)[seed % 3]
            told = flat(book, name)
            wild = wild_loop(seed, told, begins_of(told, measure))
            loops = [woven(told, measure=measure), gathered(told, measure=measure), wild, fused(told, wild, measure=measure)]
            for loop in loops:
                self.assertIsNone(loop_judged(told, loop, measure=measure))
                self.assertIsNone(slow_judged(told, loop, measure))

    def test_mutants_as_a_slow_judge_tells(self):
        found = {}
        for seed in range(250):
            chance = Random(seed)
            book = Grower(seed % 50, rows=3 + seed % 4, deep=3, calls=0.2).book(1 + seed % 2)
            told = flat(book, book.modules()[-1][0])
            cells, steps = wild_loop(seed, told, begins_of(told, 100))
            mutate(chance, told, cells, steps)
            wrong = loop_judged(told, (cells, steps), measure=100)
            self.assertEqual(wrong, slow_judged(told, (cells, steps), 100))
            found[wrong and wrong[0]] = True
        self.assertLessEqual({"cells", "keep", "set", "step"}, set(found))


def lists_in(steps):
    """All lists of steps."""
    return [steps] + [some for _, step, _ in all_steps(steps) if step[0] == "if" for some in step[2:]]


def mutate(chance, told, cells, steps):
    """Changes one thing in a loop, in place."""
    full = [some for some in lists_in(steps) if some]
    some = chance.choice(full)
    at = chance.randrange(len(some))
    names = [x for x, _, _ in told[0] + told[2]]
    turn = chance.randrange(9)
    if turn == 0 and cells:
        x, k = cells.pop()
        if chance.random() < 0.7:
            cells.append((x, 1 if k is True else 0 if k is False else bool(k)))
    elif turn == 1:
        del some[at]
    elif turn == 2:
        some.insert(chance.randrange(len(some) + 1), some[at])
    elif turn == 3:
        step = some.pop(at)
        other = chance.choice(lists_in(steps))
        other.insert(chance.randrange(len(other) + 1), step)
    elif turn == 4:
        some[at] = some[at][:1] + (chance.choice(names),) + some[at][2:]
    elif turn == 5:
        some[at] = ("if", chance.choice(names), [some[at]], [])
    elif turn == 6 and some[at][0] == "if":
        some[at] = ("if", some[at][1], some[at][3], some[at][2])
    elif turn == 7 and some[at][0] == "if":
        some[at:at + 1] = some[at][2] + some[at][3]
    elif some[at][0] in ("set", "keep"):
        some[at] = some[at][:2] + (chance.choice((("num", 1), ("truth", True), ("flow", chance.choice(names)))),)


class Forms(Judged):
    def test_anything(self):
        for thing in ANYTHING:
            self.assertEqual(loop_judged(self.flat, thing), ("loop",), thing)
        for thing in ([], ([], []), ([], [], []), ([], ()), ((), []), ([], None), (None, [])):
            self.assertEqual(loop_judged(self.flat, thing), ("cells",) if thing == ([], []) else ("loop",), thing)

    def test_steps(self):
        fine = ("set", "x", None)
        for step in (None, (), ("set",), ("set", "x"), ("set", "x", 0, 0), ("set", 0, None), ["set", "x", 0], ("keep", "x"),
                     ("keep", None, 0), ("go",), ("go", "x", 0), ("go", 1), ("if", "x"), ("if", "x", []), ("if", "x", [], ()),
                     ("if", "x", (), []), ("if", 0, [], []), ("if", "x", [], [], []), ("gone", "x"), (0, "x"), (None,),
                     (["set"], "x", 0), ("if", "x", [None], []), ("if", "x", [], [fine, ("go", 0)]),
                     ("if", "c", [("if", "y", [], [("set", "x")])], []), "go", ("", "x")):
            self.assertEqual(self.told([fine, step]), ("loop",), step)
        # Deeds and atoms are anything.
        for deed in ANYTHING:
            self.assertEqual(self.told([("set", "x", deed), ("keep", "y", deed)]), ("step", (0,)))

    def test_cells_by_form(self):
        for cell in (None, (), ("y",), ("y", True, 0), ["y", True], (0, True), (None, 0)):
            self.assertEqual(self.told(self.steps, [cell]), ("loop",), cell)
        for thing in ANYTHING:
            if thing is not True:
                self.assertEqual(self.told(self.steps, [("y", thing), ("z", 0)]), ("cells",), thing)
        # The whole form is looked at ahead of the cells, these ahead of the steps.
        self.assertEqual(self.told([None], [("q", 0)]), ("loop",))
        self.assertEqual(self.told([("go", "q")], [("q", 0)]), ("cells",))

    def test_cells(self):
        self.assertEqual(sorted(self.cells), [("y", True), ("z", 0)])
        self.assertIsNone(self.told(self.steps, [("z", 0), ("y", True)]))
        for cells in (
            [], [("y", True)], [("z", 0)], [("y", True), ("z", 0), ("x", 0)], [("y", True), ("y", True)],
            [("y", True), ("z", 0), ("z", 0)], [("y", 1), ("z", 0)], [("y", True), ("z", False)], [("y", False), ("z", 0)],
            [("y", True), ("z", 1)], [("x", True), ("z", 0)], [("y", True), ("z", None)], [("y", True), ("z", [0])],
        ):
            self.assertEqual(self.told(self.steps, cells), ("cells",), cells)

    def test_cells_by_the_measure(self):
        told = flat(book_of("MODULE m () OUT (x)\nx = (123 THEN 5)"), "m")
        for measure, k in ((10, 3), (123, 0), (124, 123)):
            loop = woven(told, measure=measure)
            self.assertEqual(loop[0], [("x", k)])
            self.assertIsNone(loop_judged(told, loop, measure=measure))
            self.assertEqual(loop_judged(told, ([("x", k + 1)], loop[1]), measure=measure), ("cells",))
        self.assertEqual(loop_judged(told, ([("x", False)], loop[1]), measure=123), ("cells",))
        self.assertEqual(loop_judged(loop=woven(told), flat=told), None)
        self.assertEqual(loop_judged(told, ([("x", 3)], loop[1])), ("cells",))


class Steps(Judged):
    def test_by_hand(self):
        told = flat(book_of("MODULE m (a, c) OUT (x, y)\nx = ((a + 1) WHEN c)\ny = (TRUE THEN (x < 3))\nz = (BEATS 0(1))"), "m")
        one, two = ("set", "0-0", ("sum", ("flow", "a"), ("num", 1))), ("set", "x", ("flow", "0-0"))
        three, four = ("set", "y", ("cell", "y")), ("set", "1-0", ("below", ("flow", "x"), ("num", 3)))
        keep, set_z, go = ("keep", "y", ("flow", "1-0")), ("set", "z", ("sign", "z")), ("go", "z")

        def wrong(*steps, cells=(("y", True), ("z", 0))):
            return loop_judged(told, (list(cells), list(steps)))

        def on(*steps):
            return ("if", "c", list(steps), [])

        def off(*steps):
            return ("if", "c", [], list(steps))

        self.assertIsNone(wrong(one, on(two, three, four, keep), set_z, go))
        self.assertIsNone(wrong(set_z, go, on(three), one, on(), on(two, four), off(), on(keep)))
        for steps, told_wrong in (
            ((), ("set", "0-0")), ((one,), ("set", "x")),
            ((on(two),), ("step", (0, 0, 0))), ((one, two), ("step", (1,))), ((one, off(two)), ("step", (1, 1, 0))),
            ((one, on(on(two))), ("step", (1, 0, 0))), ((on(one),), ("step", (0, 0, 0))),
            ((one, on(two, two)), ("step", (1, 0, 1))), ((one, one), ("step", (1,))),
            ((one, on(two, four, keep)), ("step", (1, 0, 2))), ((one, on(two, three, keep)), ("step", (1, 0, 2))),
            ((one, on(two, three, four, keep, keep)), ("step", (1, 0, 4))), ((go,), ("step", (0,))),
            ((set_z, go, go), ("step", (2,))), ((set_z, set_z), ("step", (1,))), ((set_z, on(go)), ("step", (1, 0, 0))),
            ((one, on(two, three, four), keep), ("step", (2,))), ((one, on(four)), ("step", (1, 0, 0))),
            ((one, on(two, three, four, ("go", "y"))), ("step", (1, 0, 3))),
            ((set_z, ("keep", "z", ("num", 0))), ("step", (1,))), ((one, ("go", "0-0")), ("step", (1,))),
            ((one, ("keep", "0-0", ("num", 0))), ("step", (1,))), ((("go", "q"),), ("step", (0,))),
            ((("set", "q", ("num", 1)),), ("step", (0,))), ((("set", "a", ("num", 1)),), ("step", (0,))),
            ((("if", "q", [], []),), ("step", (0,))), ((("if", "x", [], []),), ("step", (0,))),
            ((one, on(two), ("if", "x", [], [])), ("step", (2,))), ((("if", "a", [one], []),), ("step", (0, 0, 0))),
            ((on(("if", "a", [], [])),), ("step", (0, 0, 0))), ((on(on()),), ("step", (0, 0, 0))),
            ((one, on(two, three, four, keep), set_z), ("keep", "z")), ((one, on(two, three, four), set_z, go), ("keep", "y")),
            ((one, on(two, three, four), set_z), ("keep", "y")),
            ((one, on(two, four), set_z, go), ("set", "y")), ((one, on(three), set_z, go), ("set", "x")),
        ):
            self.assertEqual(wrong(*steps), told_wrong, steps)
        # An if of numbers is right where both its lists are empty.
        self.assertIsNone(wrong(("if", "a", [], []), one, ("if", "0-0", [], []), on(two, ("if", "x", [], []), three, four, keep),
                                set_z, ("if", "z", [], []), go))

    def test_deeds(self):
        told = flat(book_of("MODULE m (a, b, c) OUT (x, z)\nx = (a + 1)\ny = (c AND TRUE)\nz = (MERGE c 1 2)\nv = (b = FALSE)\n"
                            "u = (5 THEN 1)\nt = (BEATS (1))\ns = 1\nr = TRUE\nq = a\np = (1 WHEN c)"), "m")
        loop = woven(told)
        self.assertIsNone(loop_judged(told, loop))
        flat_steps = all_steps(loop[1])
        for at, (path, step, _) in enumerate(flat_steps):
            if step[0] != "set":
                continue
            for deed in (("num", 1), ("num", True), ("truth", True), ("truth", 1), ("sum", ("flow", "a"), ("num", True)),
                         ("sum", ("flow", "a"), ("num", 2)), ("sum", ("num", 1), ("flow", "a")), ("flow", "a"), ("flow", "b"),
                         ["num", 1], ("num", [1]), ("both", ("flow", "c"), ("truth", 1)), ("cell", "u"), ("sign", "t"),
                         ("cell", "t"), ("sign", "u"), ("merge", "c", ("num", 1), ("num", 2)), ("beats", "", "1"),
                         ("merge", "c", ("num", True), ("num", 2)), ("then", ("num", 5), ("num", 1)), ("less", ("flow", "a"), ("num", 1)),
                         ("when", ("num", 1), "c", True), ("same", ("flow", "b"), ("truth", 0)), ("sum", ("flow", "a"), ["num", 1]),
                         step[2] + (0,), step[2][:-1], (step[2][:-1] + (step[2][-1:],)), list(step[2])):
                if repr(deed) == repr(step[2]):
                    continue
                other = woven(told)
                replace(other[1], path, step[:2] + (deed,))
                self.assertEqual(loop_judged(told, other), ("step", path), deed)

    def test_keeps_atoms(self):
        told = flat(book_of("MODULE m (a) OUT (x)\nx = (5 THEN 1)\ny = (TRUE THEN TRUE)\nz = (0 THEN a)"), "m")
        cells, steps = woven(told)
        self.assertIsNone(loop_judged(told, (cells, steps)))
        for at, step in enumerate(steps):
            if step[0] == "keep":
                for atom in (("num", 1), ("num", True), ("truth", True), ("truth", 1), ("flow", "a"), ("flow", "x"), 1, None):
                    if repr(atom) != repr(step[2]):
                        other = steps[:at] + [step[:2] + (atom,)] + steps[at + 1:]
                        self.assertEqual(loop_judged(told, (cells, other)), ("step", (at,)))

    def test_each_step_left_out_twice_or_at_other_conditions(self):
        for path, step, conditions in all_steps(self.steps):
            cells, steps = woven(self.flat)
            some, at = place_of(steps, path)
            if step[0] != "if":
                del some[at]
                wrong = self.told(steps)
                self.assertEqual(wrong, slow_judged(self.flat, (cells, steps), 2 ** 31 - 1))
                self.assertIsNotNone(wrong)
                some.insert(at, step)
                some.insert(at, step)
                self.assertEqual(self.told(steps), ("step", path[:-1] + (at + 1,)))
                del some[at]
                some[at] = ("if", "c", [step], [])
                wrong = self.told(steps)
                self.assertIn(wrong, (("step", path), ("step", path + (0, 0))))
                some[at:at + 1] = []
                steps.append(step)
                self.assertIsNotNone(self.told(steps) if conditions else 0)

    def test_deep_ifs(self):
        names = [one + other for one in "bdefg" for other in "abcdefghij"]
        rows = [f"{x} = (TRUE WHEN {y})" for x, y in zip(names, ["c"] + names)]
        inner = "MODULE {} (c) OUT (z)\n" + "\n".join(rows) + "\nz = c"
        texts = [inner.format("ma")]
        for name, below in zip("bcdefghijkl", "abcdefghijk"):
            texts.append(inner.format("m" + name) + f"\nv = m{below}({names[-1]})")
        told = flat(book_of(*texts), "ml")
        deepest = max(len(conditions) for _, _, conditions in told[2])
        self.assertGreater(deepest, 550)
        for loop in (woven(told), gathered(told), fused(told, woven(told))):
            self.assertIsNone(loop_judged(told, loop))
        cells, steps = woven(told)
        some = steps
        while some[-1][0] == "if":
            some = some[-1][2]
        del some[-1]
        self.assertEqual(loop_judged(told, (cells, steps))[0], "set")


def place_of(steps, path):
    """The list in which the step of a path stands, and its number there."""
    some = steps
    for at, branch in zip(path[:-1:2], path[1::2]):
        some = some[at][2 + branch]
    return some, path[-1]


def replace(steps, path, step):
    """Puts a step in the place of a path."""
    some, at = place_of(steps, path)
    some[at] = step


if __name__ == "__main__":
    unittest.main()
