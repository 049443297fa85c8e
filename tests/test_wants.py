"""Wants, orders, and the judge of these (19, 20)."""

import copy
import unittest

from clockloom.errors import NoFace, NoName
from clockloom.wants import order, order_judged, wants
from tests.growing import Grower
from tests.making import ANYTHING, CLOCKED, Maker, SPLIT, book_of
from tests.oracles import slow_clocks, slow_lack, slow_wants

# The first out wants the second in, the second out the first.
CROSS = "MODULE k (a, b) OUT (x, y)\nx = (b + 1)\ny = (NOT a)"
LATE = "MODULE l (a) OUT (x)\nx = (0 THEN a)"
RINGED = "MODULE r (a) OUT (x)\nx = (y + a)\ny = (x + 1)"


class Told(unittest.TestCase):
    def wants_of(self, *texts):
        return dict(wants(book_of(*texts), "m"))

    def test_a_whole_list(self):
        text = "MODULE m (a, b, c) OUT (x)\nx = (MERGE c (y WHEN c) (b UNLESS c))\ny = (1 THEN x)\nz = ((x < a) AND c)"
        self.assertEqual(wants(book_of(text), "m"), [("x", ["b", "c", "y"]), ("y", []), ("z", ["a", "c", "x"])])
        self.assertEqual(wants(name="m", book=book_of(text))[0], ("x", ["b", "c", "y"]))
        self.assertEqual(self.wants_of("MODULE m () OUT (x)\nx = 1"), {"x": []})

    def test_flows_once_in_the_order_of_flows(self):
        self.assertEqual(self.wants_of("MODULE m (b, a) OUT (z)\nz = (((y + x) + b) + (x + (a + b)))\ny = 1\nx = 2")["z"],
                         ["b", "a", "y", "x"])

    def test_each_word(self):
        for text, told in (
            ("(a + b)", "ab"), ("(a - b)", "ab"), ("(a * b)", "ab"), ("(a < b)", "ab"), ("(a = b)", "ab"),
            ("(c AND d)", "cd"), ("(c OR d)", "cd"), ("(NOT d)", "d"), ("(IF c THEN a ELSE b)", "abc"), ("a", "a"),
            ("7", ""), ("TRUE", ""), ("(BEATS (1))", ""), ("(a WHEN c)", "ac"), ("(a UNLESS c)", "ac"),
            ("(MERGE c (1 WHEN c) (b UNLESS c))", "bc"), ("(1 THEN a)", ""), ("((1 THEN (a + b)) + b)", "b"),
            ("(TRUE THEN (c AND (NOT d)))", ""), ("(MERGE c (0 THEN (a WHEN c)) 1)", "c"),
            ("(0 THEN (MERGE c (1 WHEN c) 2))", ""),
        ):
            self.assertEqual(self.wants_of(f"MODULE m (a, b, c, d) OUT (x)\nx = {text}")["x"], list(told), text)

    def test_conditions(self):
        told = self.wants_of("MODULE m (a, b, c) OUT (x)\nx = ((0 THEN y) + 1)\ny = (a WHEN c)\nz = (7 + x)")
        self.assertEqual(told, {"x": ["c"], "y": ["a", "c"], "z": ["c", "x"]})
        told = self.wants_of("MODULE m (a, b, c) OUT (x, y)\nx = (0 THEN v)\nv = ((a WHEN b) WHEN y)\ny = (c WHEN b)")
        self.assertEqual(told, {"x": ["b", "y"], "v": ["a", "b", "y"], "y": ["b", "c"]})

    def test_calls(self):
        told = self.wants_of(CROSS, "MODULE m (a, b) OUT (x)\nx, y = k((b = 1), (a + a))")
        self.assertEqual(told, {"x": ["a"], "y": ["b"]})
        told = self.wants_of(LATE, "MODULE m (a, b) OUT (x)\nx = l((a + b))")
        self.assertEqual(told, {"x": []})
        told = self.wants_of(CROSS, "MODULE m (a, b) OUT (x)\nx, y = k((TRUE THEN (a < 1)), (0 THEN b))")
        self.assertEqual(told, {"x": [], "y": []})
        # What the part so wants, not what stands in a then of it.
        told = self.wants_of(SPLIT, "MODULE m (a, b, c) OUT (x)\nx, y = s((a + (0 THEN b)), c)")
        self.assertEqual(told, {"x": ["a", "c"], "y": ["a", "c"]})

    def test_calls_and_conditions(self):
        told = self.wants_of(LATE, "MODULE m (a, c) OUT (x)\nx = l((a WHEN c))")
        self.assertEqual(told, {"x": ["c"]})

    def test_by_a_slow_way(self):
        found = {}
        for seed in range(25):
            book = Grower(seed, rows=4, deep=3).book(3)
            for module in book.modules():
                slow = slow_wants(book, module[0], slow_clocks(book, module[0])[1])
                self.assertEqual({x: set(flows) for x, flows in wants(book, module[0])}, slow)
        for seed in range(200):
            book = Maker(seed, words=CLOCKED[seed % 4], plain=20).book(2, rows=3)
            for module in book.modules():
                lack = slow_lack(book, module[0])
                found[lack and lack.split()[0]] = True
                if lack in (None, "ring"):
                    self.assertEqual(order(book, module[0])[0], "ring" if lack else "order")
                    self.assertIsNone(order_judged(book, module[0], order(book, module[0])))
                else:
                    for asked in (wants, order, lambda some, name: order_judged(some, name, None)):
                        with self.assertRaises(NoFace) as caught:
                            asked(book, module[0])
                        self.assertEqual(caught.exception.paper[0], lack.split()[0])
        self.assertLessEqual({None, "clash", "ring"}, set(found))


class Refused(unittest.TestCase):
    def asked(self, book, name):
        return [lambda: wants(book, name), lambda: order(book, name), lambda: order_judged(book, name, ("order", []))]

    def lacks(self, paper, *texts):
        for ask in self.asked(book_of(*texts), "m"):
            with self.assertRaises(NoFace) as caught:
                ask()
            self.assertEqual(caught.exception.paper, paper)

    def test_no_name(self):
        for ask in self.asked(book_of(RINGED), "m"):
            with self.assertRaises(NoName) as caught:
                ask()
            self.assertEqual(caught.exception.name, "m")

    def test_as_face_does(self):
        self.lacks(("clash", [(0, (0, 0)), "a"]), "MODULE m (a) OUT (x)\nx = ((a + 1) WHEN a)")
        self.lacks(("name", "x"), "MODULE m (a) OUT (x)\nx = (a WHEN c)\nc = (a < 1)\nd = (d + 1)")
        self.lacks(("plain", 0, 1), SPLIT, "MODULE m (a) OUT (x)\nx, y = s(a, TRUE)")

    def test_a_ring_is_never_refused(self):
        book = book_of(RINGED.replace(" r ", " m "))
        self.assertEqual(wants(book, "m"), [("x", ["a", "y"]), ("y", ["x"])])
        word, ring = order(book, "m")
        self.assertEqual((word, sorted(ring)), ("ring", ["x", "y"]))
        self.assertIsNone(order_judged(book, "m", ("ring", ["y", "x"])))
        self.assertIsNone(order_judged(book, "m", ("ring", ["x", "y"])))

    def test_but_a_called_module_with_a_ring_is(self):
        self.lacks(("inner", "r"), RINGED, "MODULE m (a) OUT (x)\nx = r(a)")


class Orders(unittest.TestCase):
    def test_orders(self):
        book = book_of("MODULE m (a) OUT (x)\nx = (y + z)\ny = (0 THEN x)\nz = (y + a)")
        self.assertEqual(order(book, "m"), ("order", ["y", "z", "x"]))
        self.assertEqual(order(name="m", book=book)[0], "order")

    def test_rings(self):
        self.assertEqual(order(book_of("MODULE m (a) OUT (x)\nx = (x + a)"), "m"), ("ring", ["x"]))
        word, ring = order(book_of("MODULE m (a) OUT (x)\nx = (y + a)\ny = (z + 1)\nz = x\nv = y"), "m")
        self.assertEqual((word, sorted(ring)), ("ring", ["x", "y", "z"]))
        at = ring.index("x")
        self.assertEqual(ring[at:] + ring[:at], ["x", "y", "z"])

    def test_a_ring_through_a_call(self):
        book = book_of(CROSS, "MODULE m (a, b) OUT (x)\nx, y = k((x < 1), a)")
        self.assertEqual(order(book, "m")[0], "order")
        book = book_of(CROSS, "MODULE m (a, b) OUT (x)\nx, y = k((x < 1), z)\nz = (IF y THEN 1 ELSE 2)")
        word, ring = order(book, "m")
        self.assertEqual((word, sorted(ring)), ("ring", ["x", "y", "z"]))

    def test_many(self):
        for seed in range(60):
            book = Grower(seed, rows=5, deep=3).book(3)
            for module in book.modules():
                paper = order(book, module[0])
                wanted = dict(wants(book, module[0]))
                self.assertEqual(sorted(paper[1]), sorted(wanted))
                for i, x in enumerate(paper[1]):
                    self.assertFalse(set(paper[1][i:]) & set(wanted[x]))

    def test_told_anew(self):
        book = book_of(RINGED.replace(" r ", " m "))
        for told in (lambda: wants(book, "m"), lambda: order(book, "m")[1]):
            held = copy.deepcopy(told())
            some = told()
            if isinstance(some[0], tuple):
                some[0][1].append("z")
            some.clear()
            self.assertEqual(told(), held)
            self.assertIsNone(order_judged(book, "m", order(book, "m")))


class Judged(unittest.TestCase):
    FINE = "MODULE m (a) OUT (x)\nx = (y + z)\ny = (0 THEN x)\nz = (y + a)"
    RING = "MODULE m (a) OUT (x)\nx = (y + z)\ny = x\nz = (x + a)"

    def told(self, paper, text=FINE):
        return order_judged(book_of(text), "m", paper)

    def test_papers(self):
        for thing in ANYTHING:
            if thing != ("ring", ["a"]):
                self.assertEqual(self.told(thing), ("paper",), thing)
        for paper in (
            ("order",), ("order", None), ("order", ()), ("order", ["x", "y", "z"], 0), ["order", ["x"]],
            ("order", ["x", "y", "a"]), ("order", ["x", "y", 0]), ("order", ["x", ["y"]]), ("order", ["x", ("y",)]),
            ("order", [None]), ("ring", []), ("ring", ["a"]), ("ring", ["x", "q"]), ("ring", ("x",)), ("rings", ["x"]),
            (True, ["x"]), (["order"], ["x"]), ("order", ["x", "y", "z", "v"]),
        ):
            self.assertEqual(self.told(paper), ("paper",), paper)

    def test_orders(self):
        self.assertIsNone(self.told(("order", ["y", "z", "x"])))
        for some in ([], ["y", "z"], ["y", "z", "z"], ["y", "z", "x", "x"], ["x"], ["x", "y", "y", "z"], ["z", "x", "x"]):
            self.assertEqual(self.told(("order", some)), ("all",), some)
        for some, i in ((["x", "y", "z"], 0), (["y", "x", "z"], 1), (["z", "y", "x"], 0), (["z", "x", "y"], 0)):
            self.assertEqual(self.told(("order", some)), ("order", i))
        self.assertIsNone(order_judged(paper=("order", ["y", "z", "x"]), name="m", book=book_of(self.FINE)))

    def test_of_a_ring_no_order_is_let_by(self):
        for some in (["x", "y", "z"], ["z", "y", "x"], ["y", "x", "z"]):
            self.assertEqual(self.told(("order", some), self.RING)[0], "order")
        self.assertEqual(self.told(("order", ["x"]), "MODULE m (a) OUT (x)\nx = (x + a)"), ("order", 0))

    def test_rings(self):
        for some in (["x", "y"], ["y", "x"], ["x", "z"], ["x", "y", "x", "z"], ["z", "x", "y", "x"]):
            self.assertIsNone(self.told(("ring", some), self.RING), some)
        for some, i in ((["x"], 0), (["y", "z"], 0), (["x", "y", "z"], 1), (["x", "z", "y"], 1), (["x", "x", "y"], 0),
                        (["x", "y", "x"], 2), (["y", "x", "z"], 2)):
            self.assertEqual(self.told(("ring", some), self.RING), ("ring", i), some)
        self.assertIsNone(self.told(("ring", ["x"]), "MODULE m (a) OUT (x)\nx = (x + a)"))
        for some, i in ((["x"], 0), (["x", "y"], 1), (["z", "x"], 0)):
            self.assertEqual(self.told(("ring", some)), ("ring", i))

    def test_a_ring_of_conditions(self):
        # x reads nothing within a beat: it wants y alone as the flow by which it is there.
        text = "MODULE m (a, b) OUT (x, y)\nx = (0 THEN (a WHEN y))\ny = (MERGE y (x = 1) (b UNLESS y))"
        self.assertEqual(wants(book_of(text), "m"), [("x", ["y"]), ("y", ["b", "x", "y"])])
        for some in (["x", "y"], ["y"], ["y", "y", "x"]):
            self.assertIsNone(self.told(("ring", some), text))
        self.assertEqual(self.told(("ring", ["x"]), text), ("ring", 0))
        self.assertEqual(self.told(("order", ["x", "y"]), text), ("order", 0))


if __name__ == "__main__":
    unittest.main()
