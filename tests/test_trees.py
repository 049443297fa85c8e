"""Modules as trees (7, 8, 9)."""

import copy
import time
import unittest

from clockloom.errors import NoModule, NoPlace
from clockloom.trees import MOST, e_at, flows, module_wrong, places, with_e
from tests.making import ANYTHING, Maker

A = ("flow", "a")
ONE = ("num", 1)
ROW = (("x",), A)
CALL = ("call", "q", [A, ("sum", A, ONE)])
# One row of each kind, in the order of 7.
EVERY = [
    (("na",), ("num", 0)), (("nb",), ("num", 999999999999)), (("ta",), ("truth", True)),
    (("fa",), A), (("sa",), ("sum", A, ONE)), (("la",), ("less", ONE, A)), (("tb",), ("times", A, A)),
    (("ba",), ("below", A, ONE)), (("sb",), ("same", A, ONE)), (("bb",), ("both", A, A)),
    (("ea",), ("either", A, A)), (("nc",), ("not", A)), (("pa",), ("pick", A, ONE, A)),
    (("tc",), ("then", ("num", 5), A)), (("td",), ("then", ("truth", False), A)),
    (("wa",), ("when", A, "b", True)), (("ma",), ("merge", "b", A, ONE)),
    (("bc",), ("beats", "", "1")), (("bd",), ("beats", "0" * 60, "1" * 60)),
    (("x", "y"), CALL), (("z",), ("call", "r", [])),
]
EVERYTHING = ("all", ("a", "b"), ("x", "na"), EVERY)


def of_rows(*rows, ins=("a", "b"), outs=("x",)):
    return ("m", ins, outs, list(rows))


def of_whole(whole):
    return of_rows((("x",), whole))


def nested(deep):
    """An expression that is so deep."""
    e = A
    for _ in range(deep - 1):
        e = ("not", e)
    return e


def broad(many):
    """An expression of so many expressions, in as few levels as may be."""
    if many == 1:
        return A
    if many == 2:
        return ("not", A)
    return ("both", broad((many - 1) // 2), broad(many - 1 - (many - 1) // 2))


class ModuleWrong(unittest.TestCase):
    def wrong(self, thing, told):
        found = module_wrong(thing)
        self.assertEqual(repr(found), repr(told), thing)
        with self.assertRaises(NoModule) as caught:
            flows(thing)
        self.assertEqual(repr(caught.exception.wrong), repr(told))

    def test_rows_of_several_targets_by_what_is_wrong_first(self):
        for whole, told in (
            (5, ("place", 0, ())), ((), ("place", 0, ())), (None, ("place", 0, ())), ([], ("place", 0, ())),
            (("call",), ("place", 0, ())), (("call", "q", [5]), ("place", 0, (0,))), (A, ("call", 0, ())),
            (("sum", A, A), ("call", 0, ())), (("call", "q", [("flow", "zz")]), ("flow", 0, (0,))),
            (("call", "q", [("sum", A, ("flow", "zz"))]), ("flow", 0, (0, 1))),
            (("call", "q", [("call", "q", [])]), ("call", 0, (0,))),
        ):
            self.wrong(of_rows((("x", "y"), whole), (("z",), A)), told)

    def test_sizes_go_ahead_of_names_and_calls(self):
        unknown = ("sum", ("flow", "zz"), ("call", "q", [ONE]))
        for many, last, told in (
            (196, unknown, ("call", 1, (1,))), (197, unknown, ("size",)), (197, ("sum", ("flow", "zz"), ONE), ("flow", 1, (0,))),
            (198, ("sum", ("flow", "zz"), ONE), ("size",)), (199, ("flow", "zz"), ("flow", 1, ())),
            (200, ("flow", "zz"), ("size",)), (200, A, ("size",)), (3, nested(9), ("size",)),
            (3, ("both", ("flow", "zz"), nested(7)), ("flow", 1, (0,))), (3, ("both", ("flow", "zz"), nested(8)), ("size",)),
        ):
            self.wrong(of_rows((("x",), broad(many)), (("z",), last)), told)
        self.assertIsNone(module_wrong(of_rows((("x",), broad(199)), (("z",), A))))

    def test_with_e_of_as_many_as_may_be(self):
        module = of_rows((("x",), broad(197)), (("z",), ("sum", A, ONE)))
        self.assertEqual(len(places(module)), 200)
        self.assertEqual(with_e(module, (1, (0,)), ONE), of_rows((("x",), broad(197)), (("z",), ("sum", ONE, ONE))))
        self.assertEqual(len(places(with_e(module, (1, ()), ONE))), 198)
        self.assertEqual(with_e(module, (1, ()), ("times", ONE, A))[3][1], (("z",), ("times", ONE, A)))
        for place in ((1, (0,)), (0, ())):
            with self.assertRaises(NoModule) as caught:
                with_e(module, place, broad(199))
            self.assertEqual(caught.exception.wrong, ("size",))

    def test_modules(self):
        for module in (of_rows(ROW), EVERYTHING, ("abcdefgh", (), ("x",), [(("x",), ONE)])):
            self.assertIsNone(module_wrong(module))
        self.assertIsNone(module_wrong(thing=EVERYTHING))
        for seed in range(40):
            for module in Maker(seed).modules(3):
                self.assertIsNone(module_wrong(module))

    def test_module(self):
        for thing in ANYTHING:
            self.wrong(thing, ("module",))
        name, ins, outs, rows = of_rows(ROW)
        for thing in ([name, ins, outs, rows], (name, list(ins), outs, rows), (name, ins, ["x"], rows),
                      (name, ins, outs, tuple(rows)), (name, ins, outs), (name, ins, outs, rows, None),
                      (None, None, outs, rows), (name, ins, outs, None), (name, "ab", outs, rows)):
            self.wrong(thing, ("module",))

    def test_name(self):
        for name in ("", "A", "aB", "abcdefghi", "a1", "a ", "a\n", "\u00e9", None, 1, True, ("a",), ["a"]):
            self.wrong((name, ("A",), (), [None]), ("name",))

    def test_ins(self):
        eight = tuple("abcdefgh")
        self.assertIsNone(module_wrong(of_rows(ROW, ins=eight)))
        for ins in (eight + ("i",), ("a", "a"), ("A",), ("",), ("abcdefghi",), (None,), (["a"],), (("a",),)):
            self.wrong(("m", ins, (), [None]), ("ins",))

    def test_outs(self):
        rows = [((x,), A) for x in "stuvwxyz"]
        self.assertIsNone(module_wrong(of_rows(*rows, outs=tuple("stuvwxyz"))))
        for outs in ((), tuple("qstuvwxyz"), ("x", "x"), ("X",), ("",), (None,), (["x"],), (1,)):
            self.wrong(("m", (), outs, [None]), ("outs",))

    def test_row(self):
        good = (("x",), None)
        for row in (None, ["x"], [("x",), A], (["x"], A), ((), A), (("X",), A), (("x", ""), A), ("x", A),
                    (("x",),), (("x",), A, A), (("abcdefghi",), A), ((None,), A), ((("x",),), A), ((["x"],), A)):
            self.wrong(of_rows(row, row), ("row", 0))
            self.wrong(of_rows(good, good, row, good, None), ("row", 2))
            # Too many rows come behind.
            self.wrong(of_rows(*[good] * 70, row), ("row", 70))

    def test_many(self):
        self.assertEqual(MOST, 60)
        sixty = [((a + b,), A) for a in "ghijklx" for b in "abcdefghij"][:59] + [ROW]
        self.assertIsNone(module_wrong(of_rows(*sixty)))
        self.wrong(of_rows(*sixty, (("z",), None)), ("many",))
        self.wrong(of_rows(*[(("x",), None)] * 61), ("many",))

    def test_place_of_each_word(self):
        wrong = [
            ("num",), ("num", -1), ("num", 10 ** 12), ("num", True), ("num", "1"), ("num", None), ("num", 1, 1),
            ("truth",), ("truth", 1), ("truth", 0), ("truth", None), ("truth", "TRUE"), ("truth", True, 1),
            ("flow",), ("flow", "A"), ("flow", ""), ("flow", "abcdefghi"), ("flow", 1), ("flow", ["a"]),
            ("flow", "a", "a"), ("not",), ("not", A, A), ("pick", A, A), ("pick", A, A, A, A), ("then", A, A),
            ("then", ("num", -1), A), ("then", ("num", True), A), ("then", ("truth", 1), A), ("then", 1, A),
            ("then", ("num", 10 ** 12), A), ("then", ["num", 1], A), ("then", ("num", 1, 1), A),
            ("then", ("num",), A), ("then", (), A), ("then", (["num"], 1), A), ("then", ONE), ("then", ONE, A, A),
            ("then", ("then", ONE, A), A), ("when", A, "b", 1), ("when", A, "b", None), ("when", A, "B", True),
            ("when", A, ("flow", "b"), True), ("when", "b", A, True), ("when", A, "b"), ("merge", A, A, A),
            ("merge", "B", A, A), ("merge", "b", A), ("merge", "b", A, A, A), ("beats", "", ""), ("beats", "1"),
            ("beats", "0" * 61, "1"), ("beats", "", "0" * 61), ("beats", "2", "1"), ("beats", "", "1 "),
            ("beats", 0, 1), ("beats", None, "1"), ("beats", "", ["1"]), ("beats", "", "1", "1"),
            ("call", "q"), ("call", "Q", []), ("call", "q", (A,)), ("call", "q", [A] * 9), ("call", None, []),
            ("call", "q", None), ("call", "q", [], []), ("call", ["q"], []), ("Num", 1), ("", 1), ("flows", "a"),
            (None, 1), (1,), (True, A), (("num",), 1), (["num"], 1), [*A], ["num", 1], ("cell", "a"),
        ]
        for word in ("sum", "less", "times", "below", "same", "both", "either"):
            wrong += [(word,), (word, A), (word, A, A, A), [word, A, A]]
        for thing in wrong + list(ANYTHING):
            self.wrong(of_whole(thing), ("place", 0, ()))
            self.wrong(of_rows(ROW, (("y",), ("pick", A, ("sum", A, thing), None))), ("place", 1, (1, 1)))
            self.wrong(of_rows(ROW, (("y", "z"), ("call", "q", [A, thing, thing]))), ("place", 1, (1,)))

    def test_place_is_the_first_of_all(self):
        # Each expression ahead of its parts, these in order, rows rising.
        self.wrong(of_whole(("sum", ("sum", A, None), None)), ("place", 0, (0, 1)))
        self.wrong(of_whole(("sum", None, ("sum", A, None))), ("place", 0, (0,)))
        self.wrong(of_whole(("flow", None)), ("place", 0, ()))
        self.wrong(of_rows((("x",), ("not", ("not", None))), (("y",), None)), ("place", 0, (0, 0)))
        self.wrong(of_whole(("then", ONE, None)), ("place", 0, (0,)))
        self.wrong(of_whole(("when", None, "b", True)), ("place", 0, (0,)))
        self.wrong(of_whole(("merge", "b", A, None)), ("place", 0, (1,)))
        self.wrong(of_whole(("merge", "b", None, A)), ("place", 0, (0,)))
        # Also behind two hundred expressions, and more than eight deep.
        self.wrong(of_rows(*[(("x",), nested(8))] * 30, (("x",), None)), ("place", 30, ()))
        deep = ("not", None)
        for _ in range(9):
            deep = ("not", deep)
        self.wrong(of_whole(deep), ("place", 0, (0,) * 10))

    def test_size(self):
        self.assertIsNone(module_wrong(of_whole(nested(8))))
        self.wrong(of_whole(nested(9)), ("size",))
        self.assertIsNone(module_wrong(of_whole(("call", "q", [nested(7)]))))
        self.wrong(of_whole(("call", "q", [nested(8)])), ("size",))
        # What a then begins with is no part, so it lies no deeper.
        deep = ("then", ONE, A)
        for _ in range(6):
            deep = ("not", deep)
        self.assertIsNone(module_wrong(of_whole(deep)))
        tens = [((a + b,), nested(8)) for a in "klmn" for b in "abcdef"]
        self.assertIsNone(module_wrong(of_rows(*tens, (("x",), nested(8)))))
        self.assertEqual(len(places(of_rows(*tens, (("x",), nested(8))))), 200)
        self.wrong(of_rows(*tens, (("x",), nested(8)), (("y",), A)), ("size",))
        # With a call among the parts, which is wrong too, but comes behind.
        self.wrong(of_whole(("not", nested(8))), ("size",))
        self.wrong(of_rows(*tens, *tens, (("x", "y"), ("not", CALL))), ("size",))

    def test_size_of_very_much(self):
        e = A
        for _ in range(12):
            e = ("sum", e, e)
        begin = time.monotonic()
        self.wrong(of_whole(e), ("size",))
        self.assertLess(time.monotonic() - begin, 5)

    def test_call(self):
        self.wrong(of_whole(("not", CALL)), ("call", 0, (0,)))
        self.wrong(of_whole(("call", "q", [A, ("sum", A, CALL)])), ("call", 0, (1, 1)))
        self.wrong(of_rows((("x", "y"), A)), ("call", 0, ()))
        self.wrong(of_rows(ROW, (("y", "z"), ("not", CALL))), ("call", 1, ()))
        self.wrong(of_rows((("x",), ("sum", A, CALL)), (("x", "y"), A)), ("call", 0, (1,)))
        # Ahead of a target told twice, an unknown flow, an out that is none.
        self.wrong(of_rows((("x", "x"), ("flow", "q")), outs=("z",)), ("call", 0, ()))

    def test_told(self):
        self.wrong(of_rows(ROW, ROW), ("told", "x"))
        self.wrong(of_rows((("b",), A), ROW, ROW), ("told", "b"))
        self.wrong(of_rows((("x", "y", "z", "y"), CALL), (("x",), A)), ("told", "y"))
        self.wrong(of_rows((("b",), ("flow", "q")), outs=("z",)), ("told", "b"))

    def test_flow(self):
        self.wrong(of_whole(("flow", "q")), ("flow", 0, ()))
        self.wrong(of_whole(("sum", A, ("flow", "q"))), ("flow", 0, (1,)))
        self.wrong(of_whole(("when", ("flow", "q"), "q", True)), ("flow", 0, ()))
        self.wrong(of_whole(("merge", "q", ("flow", "q"), A)), ("flow", 0, ()))
        self.wrong(of_rows(ROW, (("y",), ("merge", "b", A, ("when", A, "q", False)))), ("flow", 1, (1,)))
        self.wrong(of_rows((("x",), ("call", "q", [A, ("then", ONE, ("flow", "q"))]))), ("flow", 0, (1, 0)))
        self.wrong(of_rows((("y",), ("flow", "q")), outs=("x",)), ("flow", 0, ()))
        # A target of a later row, or of its own, is known; a called module's name is no flow.
        self.assertIsNone(module_wrong(of_rows((("x",), ("sum", ("flow", "y"), ("flow", "x"))), (("y",), A))))

    def test_out(self):
        self.wrong(of_rows(ROW, outs=("x", "y", "z")), ("out", "y"))
        self.wrong(of_rows(ROW, outs=("a", "x")), ("out", "a"))


class Places(unittest.TestCase):
    def test_places_in_order(self):
        self.assertEqual(places(of_rows(ROW)), [(0, ())])
        module = of_rows((("x",), ("pick", A, ("sum", A, ONE), ("not", A))), (("y", "z"), CALL))
        self.assertEqual(places(module), [
            (0, ()), (0, (0,)), (0, (1,)), (0, (1, 0)), (0, (1, 1)), (0, (2,)), (0, (2, 0)),
            (1, ()), (1, (0,)), (1, (1,)), (1, (1, 0)), (1, (1, 1)),
        ])
        self.assertEqual(places(module=of_whole(("then", ONE, A)), only=()), [(0, ()), (0, (0,))])

    def test_parts_of_each_word(self):
        b, c = ("flow", "b"), ("truth", True)
        for word in ("sum", "less", "times", "below", "same", "both", "either"):
            self.parts((word, A, b), [A, b])
        self.parts(("not", b), [b])
        self.parts(("pick", c, A, b), [c, A, b])
        self.parts(("then", ONE, b), [b])
        self.parts(("when", A, "b", False), [A])
        self.parts(("merge", "b", A, c), [A, c])
        self.parts(("call", "q", [b, A, c, b, ONE, A, A, b]), [b, A, c, b, ONE, A, A, b])
        for e in (ONE, c, A, ("beats", "", "1"), ("call", "q", [])):
            self.parts(e, [])

    def parts(self, e, parts):
        module = of_whole(e)
        self.assertIsNone(module_wrong(module))
        self.assertEqual(places(module), [(0, ())] + [(0, (i,)) for i in range(len(parts))])
        for i, part in enumerate(parts):
            self.assertEqual(e_at(module, (0, (i,))), part)
            told = with_e(module, (0, (i,)), ("num", 9))
            self.assertEqual([e_at(told, (0, (j,))) for j in range(len(parts))],
                             parts[:i] + [("num", 9)] + parts[i + 1:])

    def test_places_are_whole_numbers(self):
        for k, path in places(EVERYTHING):
            self.assertIs(type(k), int)
            self.assertTrue(all(type(i) is int for i in path))

    def test_places_with_only(self):
        self.assertEqual(places(EVERYTHING, only=("then", "beats")), [(13, ()), (14, ()), (17, ()), (18, ())])
        self.assertEqual(places(EVERYTHING, only=("call",)), [(19, ()), (20, ())])
        self.assertEqual(places(EVERYTHING, only=("zebra", "", "NUM")), [])
        self.assertEqual(places(of_whole(("then", ONE, A)), only=("num",)), [])
        words = sorted({e_at(EVERYTHING, place)[0] for place in places(EVERYTHING)})
        self.assertEqual(sum(len(places(EVERYTHING, only=(word,))) for word in words), len(places(EVERYTHING)))
        with self.assertRaises(TypeError):
            places(EVERYTHING, ("then",))

    def test_e_at(self):
        self.assertEqual(e_at(EVERYTHING, (19, (1, 1))), ONE)
        self.assertEqual(e_at(place=(13, (0,)), module=EVERYTHING), A)
        self.assertEqual(e_at(EVERYTHING, (19, ())), CALL)
        self.assertEqual([e_at(EVERYTHING, (k, ())) for k in range(len(EVERY))], [e for _, e in EVERY])

    def test_places_that_are_none(self):
        wrong = list(ANYTHING) + [
            "a", "x", (0,), (0, (), ()), [0, ()], (0, []), (True, ()), (False, ()), (11, (False,)), (11, [0]),
            (-1, ()), (21, ()), (10 ** 29, ()), (11, (-1,)), (11, (1,)), (11, (0, 0)), (11, (10 ** 29,)),
            (11, (None,)), (11, ("0",)), (13, (1,)), (20, (0,)), (None, ()), ("0", ()), (11, 0), ((11,), ()),
            ((0, ()),), (0, ((),)), (0, "0"),
        ]
        for place in wrong:
            for ask in (lambda: e_at(EVERYTHING, place), lambda: with_e(EVERYTHING, place, None)):
                with self.assertRaises(NoPlace) as caught:
                    ask()
                self.assertEqual(repr(caught.exception.place), repr(place))

    def test_no_module_goes_ahead(self):
        for thing in ANYTHING + (of_whole(None), of_rows(ROW, outs=("y",))):
            for ask in (places, flows, lambda m: places(m, only=("num",)), lambda m: e_at(m, None),
                        lambda m: with_e(m, None, None)):
                with self.assertRaises(NoModule) as caught:
                    ask(thing)
                self.assertEqual(caught.exception.wrong, module_wrong(thing))

    def test_with_e(self):
        for place in places(EVERYTHING):
            if place == (19, ()):
                continue
            told = with_e(EVERYTHING, place, ("num", 77))
            self.assertIsNone(module_wrong(told))
            self.assertEqual(e_at(told, place), ("num", 77))
            self.assertEqual(told[:3], EVERYTHING[:3])
            ahead = [other for other in places(EVERYTHING) if other[0] != place[0]]
            self.assertEqual([e_at(told, other) for other in ahead], [e_at(EVERYTHING, other) for other in ahead])
        self.assertEqual(with_e(e=A, place=(0, ()), module=of_whole(("sum", A, ONE))), of_whole(A))
        deep = of_whole(("pick", A, ("then", ONE, A), ("merge", "b", A, A)))
        self.assertEqual(with_e(deep, (0, (1, 0)), ONE), of_whole(("pick", A, ("then", ONE, ONE), ("merge", "b", A, A))))
        self.assertEqual(with_e(deep, (0, (2, 1)), ONE), of_whole(("pick", A, ("then", ONE, A), ("merge", "b", A, ONE))))
        self.assertEqual(with_e(of_whole(CALL), (0, (1,)), ONE), of_whole(("call", "q", [A, ONE])))

    def test_with_e_of_what_makes_no_module(self):
        told = [
            (None, ("place", 1, (0,))), (["num", 1], ("place", 1, (0,))), (CALL, ("call", 1, (0,))),
            (("flow", "zz"), ("flow", 1, (0,))), (nested(8), ("size",)), (("sum", A, 1), ("place", 1, (0, 1))),
        ]
        module = of_rows(ROW, (("y",), ("not", A)))
        for thing, wrong in told + [(thing, ("place", 1, (0,))) for thing in ANYTHING]:
            with self.assertRaises(NoModule) as caught:
                with_e(module, (1, (0,)), thing)
            self.assertEqual(repr(caught.exception.wrong), repr(wrong))
        with self.assertRaises(NoModule) as caught:
            with_e(EVERYTHING, (19, ()), A)
        self.assertEqual(caught.exception.wrong, ("call", 19, ()))

    def test_flows(self):
        self.assertEqual(flows(of_rows(ROW)), ["a", "b", "x"])
        self.assertEqual(flows(module=of_rows((("y", "x"), CALL), (("c",), A))), ["a", "b", "y", "x", "c"])
        self.assertEqual(flows(("m", (), ("x",), [(("x",), ONE)])), ["x"])


class NothingIsShared(unittest.TestCase):
    def test_what_is_handed_in_is_not_changed(self):
        module = copy.deepcopy(EVERYTHING)
        for place in places(module):
            e_at(module, place)
            if place != (19, ()):
                with_e(module, place, ONE)
        self.assertEqual(module, EVERYTHING)

    def test_what_is_told_may_be_changed(self):
        module = copy.deepcopy(EVERYTHING)
        for ask in (lambda: places(module), lambda: flows(module), lambda: e_at(module, (19, ()))[2],
                    lambda: with_e(module, (0, ()), A)[3], lambda: with_e(module, (0, ()), A)[3][19][1][2]):
            first = ask()
            held = copy.deepcopy(first)
            first.clear()
            self.assertEqual(ask(), held)
        self.assertEqual(module, EVERYTHING)

    def test_with_e_keeps_no_list_that_was_handed_in(self):
        module = copy.deepcopy(EVERYTHING)
        call = ("call", "r", [A])
        told = with_e(module, (20, ()), call)
        call[2].append(None)
        module[3][19][1][2].clear()
        self.assertEqual(told[3][20], (("z",), ("call", "r", [A])))
        self.assertEqual(told[3][19], (("x", "y"), CALL))

    def test_each_list_stands_at_one_place_alone(self):
        shared = [A]
        module = of_rows((("x",), ("call", "q", shared)), (("y",), ("call", "q", shared)), (("z",), A), outs=("z",))
        told = with_e(module, (2, ()), ("call", "q", shared))
        told[3][0][1][2].append(None)
        told[3][2][1][2].append(None)
        self.assertEqual(told[3][1], (("y",), ("call", "q", [A])))
        self.assertEqual(shared, [A])

    def test_the_refusal_keeps_the_place_as_it_was(self):
        place = [0, []]
        with self.assertRaises(NoPlace) as caught:
            e_at(EVERYTHING, place)
        place[1].append(1)
        self.assertEqual(caught.exception.place, [0, []])


if __name__ == "__main__":
    unittest.main()
