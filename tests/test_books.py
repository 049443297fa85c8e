"""Books (10)."""

import copy
import unittest

from clockloom.books import MEASURE, Book, book_wrong
from clockloom.errors import NoBook, NoMeasure, NoName
from tests.making import ANYTHING, Maker

A = ("flow", "a")


def module(name, *called, outs=1, ins=1):
    """A module that calls others, each with one part and one target."""
    rows = [((x,), A) for x in "stuvwxyz"[:outs]]
    rows += [(("c" + "abcdefghijkl"[i],), ("call", m, [A])) for i, m in enumerate(called)]
    return (name, tuple("abcdefgh"[:ins]), tuple("stuvwxyz"[:outs]), rows)


TWELVE = [module("m" + sign) for sign in "abcdefghijkl"]


class BookWrong(unittest.TestCase):
    def wrong(self, thing, told):
        self.assertEqual(repr(book_wrong(thing)), repr(told))
        with self.assertRaises(NoBook) as caught:
            Book(thing)
        self.assertEqual(repr(caught.exception.wrong), repr(told))
        with self.assertRaises(NoBook):
            Book(thing, measure=1)

    def test_books(self):
        for modules in ([], TWELVE, [module("a", "b", "b"), module("b")], [module("b"), module("a", "b")]):
            self.assertIsNone(book_wrong(modules))
            self.assertEqual(len(Book(modules)), len(modules))
        self.assertIsNone(book_wrong(thing=[]))

    def test_modules(self):
        for thing in ANYTHING:
            if not isinstance(thing, list):
                self.wrong(thing, ("modules",))
        self.wrong(tuple(TWELVE), ("modules",))
        self.wrong(module("a"), ("modules",))
        self.wrong(TWELVE + [module("mm")], ("modules",))
        self.wrong([None] * 13, ("modules",))

    def test_module(self):
        for thing in ANYTHING:
            self.wrong([thing], ("module", 0, ("module",)))
            self.wrong([module("a"), module("a", "q"), thing], ("module", 2, ("module",)))
        broken = ("b", (), ("x",), [(("x",), ("sum", ("num", 1), None))])
        self.wrong([module("a"), broken, None], ("module", 1, ("place", 0, (1,))))
        self.wrong([None] * 12, ("module", 0, ("module",)))

    def test_name(self):
        self.wrong([module("a", "q"), module("b"), module("b", ins=2), module("a")], ("name", 2))
        self.wrong([module("a", "q"), module("b"), module("a"), module("b")], ("name", 2))
        self.wrong([module("a", "a"), module("a")], ("name", 1))

    def test_call(self):
        self.wrong([module("a", "b", "q")], ("call", 0, 1))
        self.wrong([module("b"), module("a", "b", "q")], ("call", 1, 2))
        # Parts too few, too many; targets too few, too many.
        self.wrong([module("b", ins=2), module("a", "b")], ("call", 1, 1))
        none = ("b", (), ("s",), [(("s",), ("num", 1))])
        self.wrong([none, module("a", "b")], ("call", 1, 1))
        self.wrong([module("b", outs=2), module("a", "b")], ("call", 1, 1))
        two = ("a", ("a",), ("x",), [(("x",), A), (("y", "z"), ("call", "b", [A]))])
        self.wrong([two, module("b")], ("call", 0, 1))
        self.assertIsNone(book_wrong([two, module("b", outs=2)]))
        # Parts and targets exchanged.
        self.wrong([two, module("b", ins=2)], ("call", 0, 1))
        # The least module, then the least row; ahead of a ring.
        self.wrong([module("a", "a"), module("b", "b", "q", "r"), module("c", "q")], ("call", 1, 2))

    def test_ring_of_itself(self):
        self.wrong([module("b"), module("a", "b", "a")], ("ring", ["a"]))

    def test_ring_of_several(self):
        modules = [module("a", "b"), module("b", "d", "c"), module("c", "d", "a"), module("d"), module("e", "a")]
        with self.assertRaises(NoBook) as caught:
            Book(modules)
        word, ring = caught.exception.wrong
        self.assertEqual((word, sorted(ring)), ("ring", ["a", "b", "c"]))
        calls = {"a": "b", "b": "dc", "c": "da", "d": "", "e": "a"}
        for one, other in zip(ring, ring[1:] + ring[:1]):
            self.assertIn(other, calls[one])
        self.assertEqual(book_wrong(modules), caught.exception.wrong)

    def test_rings_by_a_seed(self):
        chance = Maker(1).chance
        rings = 0
        for _ in range(200):
            names = "abcdef"
            calls = {x: [y for y in names if chance.random() < 0.2] for x in names}
            told = book_wrong([module(x, *calls[x]) for x in names])
            reach = {x: set(calls[x]) for x in names}
            for _ in names:
                reach = {x: reach[x].union(*[reach[y] for y in reach[x]]) for x in names}
            self.assertEqual(told is None, all(x not in reach[x] for x in names))
            if told is not None:
                rings += 1
                self.assertEqual(len(set(told[1])), len(told[1]))
                for one, other in zip(told[1], told[1][1:] + told[1][:1]):
                    self.assertIn(other, calls[one])
        self.assertGreater(rings, 20)

    def test_what_is_told_is_new(self):
        modules = [module("a", "a")]
        book_wrong(modules)[1].clear()
        self.assertEqual(book_wrong(modules), ("ring", ["a"]))


class Books(unittest.TestCase):
    def test_measure(self):
        self.assertEqual(MEASURE, 2147483647)
        self.assertEqual(Book([]).measure(), MEASURE)
        for measure in (2, 3, 10 ** 12):
            self.assertEqual(Book([], measure=measure).measure(), measure)
        for measure in (1, 0, -1, 10 ** 12 + 1, 10 ** 29, True):
            with self.assertRaises(NoMeasure):
                Book([], measure=measure)
        with self.assertRaises(TypeError):
            Book([], 7)

    def test_modules_in_order(self):
        modules = [module("b", "a"), module("a"), module("c", "b")]
        book = Book(modules=modules)
        self.assertEqual(book.modules(), modules)
        for one in modules:
            self.assertEqual(book.module(one[0]), one)
            self.assertEqual(book.module(name=one[0]), one)

    def test_names_that_none_has(self):
        for name in ("b", "", "A", "a ", "abcdefghijk", "\n"):
            with self.assertRaises(NoName) as caught:
                Book([module("a")]).module(name)
            self.assertEqual(caught.exception.name, name)
            with self.assertRaises(NoName):
                Book([]).module(name)

    def test_equal(self):
        modules = [module("b", "a"), module("a"), module("c", "b")]
        self.assertTrue(Book(modules) == Book(modules[::-1]))
        self.assertTrue(Book([]) == Book([], measure=MEASURE))
        self.assertFalse(Book(modules) != Book(modules[1:] + modules[:1]))
        self.assertFalse(Book(modules) == Book(modules, measure=7))
        self.assertFalse(Book(modules) == Book(modules[:2]))
        self.assertFalse(Book(modules[:2]) == Book(modules))
        self.assertFalse(Book([module("a")]) == Book([module("a", ins=2)]))
        one = ("a", (), ("x",), [(("x",), ("num", 1))])
        other = ("a", (), ("x",), [(("x",), ("truth", True))])
        self.assertFalse(Book([one]) == Book([other]))
        for thing in ANYTHING + (modules, TWELVE):
            self.assertFalse(Book([]) == thing)
            self.assertTrue(Book(modules) != thing)

    def test_len(self):
        self.assertEqual([len(Book(TWELVE[:many])) for many in (0, 1, 12)], [0, 1, 12])

    def test_lists_changed_behind(self):
        modules = [module("b"), module("a", "b")]
        held = copy.deepcopy(modules)
        book = Book(modules)
        modules[1][3][1][1][2].clear()
        modules[0][3].clear()
        modules.pop()
        self.assertEqual(book.modules(), held)
        told = book.modules()
        told[1][3][1][1][2].clear()
        told.clear()
        book.module("a")[3].clear()
        self.assertEqual(book.modules(), held)
        self.assertEqual(book.module("a"), held[1])
        self.assertEqual(len(book), 2)

    def test_lists_shared_by_what_is_handed_in(self):
        parts = [A]
        rows = [(("s",), ("call", "b", parts)), (("t",), ("call", "b", parts))]
        modules = [module("b"), ("a", ("a",), ("s",), rows), ("c", ("a",), ("s",), rows)]
        told = Book(modules).modules()
        told[1][3][0][1][2].clear()
        told[1][3].pop()
        self.assertEqual(told[1][3], [(("s",), ("call", "b", []))])
        self.assertEqual(told[2], modules[2])
        self.assertEqual(parts, [A])


if __name__ == "__main__":
    unittest.main()
