"""A store (43 to 46)."""

import time
import unittest
from random import Random

from clockloom.books import Book
from clockloom.errors import LoomError, NoBack, NoBeat, NoBook, NoDeed, NoFace, NoMeasure, NoName, NoTitle
from clockloom.stores import Store
from clockloom.teller import Run
from clockloom.texts import read_module, read_modules
from tests.growing import Grower, doors_of, right_beat
from tests.making import ANYTHING, SPLIT
from tests.slowstore import SlowStore

COUNT = "MODULE n (a) OUT (x)\nx = (0 THEN (x + a))"
TWICE = "MODULE n (a) OUT (x)\nx = (0 THEN (x + (a * 2)))"
TRUTHS = "MODULE n (a) OUT (x)\nx = (TRUE THEN (NOT (a < 3)))"
RINGED = "MODULE n (a) OUT (x)\nx = (x + a)"
TOP = "MODULE m (a) OUT (y)\nx = n((a + (0 THEN a)))\ny = (IF (BEATS (10)) THEN x ELSE 0)"


def some(*texts):
    return [read_module(text) for text in texts]


class Deeds(unittest.TestCase):
    def setUp(self):
        self.store = Store(some(COUNT))

    def refused(self, kind, call, *handed, told=None, **more):
        """That a call is refused, and changes nothing but the log."""
        store = self.store
        before = self.all_of(store)
        with self.assertRaises(kind) as caught:
            call(*handed, **more)
        self.assertEqual(self.all_of(store), before)
        if told is not None:
            self.assertEqual(list(vars(caught.exception).values()), [told])

    def all_of(self, store):
        runs = [(title, store.run_of(title).state(), store.run_of(title).flows(), len(store.run_of(title))) for title in store.titles()]
        return (store.modules(), runs, store.faces(), len(store))

    def test_made(self):
        self.assertEqual((Store().modules(), len(Store()), Store().titles(), Store().log()), ([], 0, [], []))
        self.assertEqual(Store(tuple(some(COUNT, SPLIT))).modules(), some(COUNT, SPLIT))
        self.assertEqual(Store(modules=some(COUNT, SPLIT), measure=7).modules(), some(COUNT, SPLIT))
        for thing, wrong in ((some(COUNT, COUNT), ("name", 1)), (tuple(some(COUNT, COUNT)), ("name", 1)), (some(TOP), ("call", 0, 0)),
                             ([None], ("module", 0, ("module",))), ((None,), ("module", 0, ("module",)))):
            with self.assertRaises(NoBook) as caught:
                Store(thing, measure=1)
            self.assertEqual(caught.exception.wrong, wrong)
        for measure in (1, 0, -5, 10 ** 12 + 1, 10 ** 29):
            with self.assertRaises(NoMeasure):
                Store(some(COUNT), measure=measure)

    def test_put(self):
        store = self.store
        self.assertIsNone(store.put(read_module(SPLIT)))
        self.assertEqual(store.modules(), some(COUNT, SPLIT))
        store.put(module=read_module(TWICE))
        self.assertEqual(store.modules(), some(TWICE, SPLIT))
        store.put(read_module(TOP))
        self.assertEqual((store.modules(), len(store)), (some(TWICE, SPLIT, TOP), 3))
        self.refused(NoBook, store.put, read_module("MODULE n () OUT (x)\nx = 1"), told=("call", 2, 0))
        self.refused(NoBook, store.put, read_module("MODULE n (a) OUT (x)\nx = m(a)"))
        for thing in ANYTHING + (["n"], ("s", None, 3)):
            self.refused(NoBook, store.put, thing)
        for thing, wrong in ((("n",), ("module", 0, ("module",))), (("s", (), (), []), ("module", 1, ("outs",))),
                             (("q", (), (), []), ("module", 3, ("outs",))), (["n"], ("module", 3, ("module",))), ((), ("module", 3, ("module",))),
                             ((("n",), (), (), []), ("module", 3, ("name",))), (([],), ("module", 3, ("module",)))):
            self.refused(NoBook, store.put, thing, told=wrong)
        for sign in "abcdefghi":
            store.put(read_module(f"MODULE {sign} () OUT (x)\nx = 1"))
        self.refused(NoBook, store.put, read_module("MODULE j () OUT (x)\nx = 1"), told=("modules",))
        store.put(read_module("MODULE i () OUT (x)\nx = 2"))

    def test_drop(self):
        store = Store(some(COUNT, TOP, SPLIT))
        self.store = store
        self.refused(NoName, store.drop, "q", told="q")
        self.refused(NoName, store.drop, "", told="")
        self.refused(NoBook, store.drop, "n", told=("call", 0, 0))
        self.assertIsNone(store.drop(name="m"))
        self.assertEqual(store.modules(), some(COUNT, SPLIT))
        store.drop("n")
        store.put(read_module(COUNT))
        self.assertEqual(store.modules(), some(SPLIT, COUNT))

    def test_begin(self):
        store = self.store
        self.assertIsNone(store.begin("r", "n"))
        store.begin(title="a", name="n")
        self.assertEqual(store.titles(), ["r", "a"])
        for title in ANYTHING + ("r", "R", "abcdefghi", "r ", ["r"], ("r",)):
            if title != "a":
                self.refused(NoTitle, store.begin, title, "n")
                self.refused(NoTitle, store.begin, title, "q")
        self.refused(NoName, store.begin, "b", "q", told="q")
        store.put(read_module(RINGED.replace(" n ", " o ")))
        self.refused(NoFace, store.begin, "b", "o", told=("ring", ["x"]))
        store.begin("b", "n")
        self.assertEqual(store.titles(), ["r", "a", "b"])

    def test_feed(self):
        store = self.store
        store.begin("r", "n")
        self.assertEqual([store.feed("r", {"a": at}) for at in (3, 4, 5)], [{"x": 0}, {"x": 3}, {"x": 7}])
        self.refused(NoTitle, store.feed, "q", {"a": 1})
        for title in ("", "R", "r ", None, ["r"], ("r",), {}):
            for call, more in ((store.feed, [{"zz": 1}]), (store.over, []), (store.end, []), (store.run_of, [])):
                self.refused(NoTitle, call, title, *more)
        self.refused(NoBeat, store.feed, "r", {}, told="a")
        self.refused(NoBeat, store.feed, "r", {"a": True}, told="a")
        self.refused(NoBeat, store.feed, title="r", ins={"a": 1, "b": 1}, told="b")
        self.assertEqual(len(store.run_of("r")), 3)

    def test_a_run_goes_on_as_it_was_begun(self):
        store = Store(some(COUNT, TOP), measure=100)
        store.begin("r", "m")
        run = Run(Book(store.modules(), measure=100), "m")
        for at in range(6):
            self.assertEqual(store.feed("r", {"a": at}), run.feed({"a": at}))
            if at == 1:
                store.put(read_module(TWICE))
            if at == 2:
                store.drop("m")
                store.drop("n")
        self.assertEqual((store.modules(), store.run_of("r").flows()), ([], run.flows()))

    def test_end(self):
        store = self.store
        for title in ("r", "", "n"):
            self.refused(NoTitle, store.end, title)
        store.begin("q", "n")
        store.begin("r", "n")
        self.assertIsNone(store.end(title="q"))
        self.assertEqual(store.titles(), ["r"])
        self.refused(NoTitle, store.end, "q")
        self.refused(NoTitle, store.run_of, "q")
        store.begin("q", "n")
        self.assertEqual(store.titles(), ["r", "q"])

    def test_run_of_is_a_copy(self):
        store = self.store
        store.begin("r", "n")
        store.feed("r", {"a": 5})
        run = store.run_of(title="r")
        self.assertIsInstance(run, Run)
        run.feed({"a": 1})
        run.back(2)
        self.assertEqual(store.run_of("r").flows(), [("a", 5), ("x", 0)])
        self.assertEqual(store.feed("r", {"a": 1}), {"x": 5})
        self.refused(NoTitle, store.run_of, "zz")


class Over(unittest.TestCase):
    def over(self, modules, behind, beats=(3, 4)):
        store = Store(some(*modules), measure=100)
        store.begin("r", "m")
        for at in beats:
            store.feed("r", {"a": at})
        for text in behind:
            store.put(read_module(text))
        before = {line[:2]: line[2] for line in store.run_of("r").state()}
        told = store.over("r")
        run = store.run_of("r")
        self.assertEqual(len(run), 0)
        with self.assertRaises(NoBack):
            run.back()
        held = {line[:2]: line[2] for line in run.state()}
        for line in told:
            self.assertEqual(held[line], before[line])
        for line in held:
            if line not in told:
                self.assertIn(held[line], (0, True, 7))
        return told, run.state()

    def test_all_is_carried(self):
        told, state = self.over((COUNT, TOP), ())
        self.assertEqual(told, [((), (0, (0, 1))), ((0,), (0, ())), ((), (1, (0,)))])
        self.assertEqual(state, [((), (0, (0, 1)), 4), ((0,), (0, ()), 10), ((), (1, (0,)), 2)])

    def test_whatever_else_is_in_it(self):
        told, state = self.over((COUNT, TOP), (TWICE, TOP.replace("(10)", "0(011)").replace("(0 THEN a)", "(7 THEN (a * 5))")))
        self.assertEqual(told, [((), (0, (0, 1))), ((0,), (0, ())), ((), (1, (0,)))])
        self.assertEqual([line[2] for line in state], [4, 10, 2])

    def test_those_of_other_kinds_are_as_ever(self):
        told, state = self.over((COUNT, TOP), (TOP.replace("(0 THEN a)", "7").replace("y = (IF (BEATS (10))", "y = (IF (TRUE THEN TRUE)"),))
        self.assertEqual((told, state), ([((0,), (0, ()))], [((0,), (0, ()), 10), ((), (1, (0,)), True)]))
        told, state = self.over((COUNT, TOP), (TRUTHS.replace("n (a)", "o (a)"), TOP.replace("n((", "o((").replace("x ELSE 0", "0 ELSE 1")))
        self.assertEqual(told, [((), (0, (0, 1))), ((), (1, (0,)))])
        self.assertEqual(state[1], ((0,), (0, ()), True))

    def test_whatever_is_called_on_the_way(self):
        told, state = self.over((COUNT, TOP), (TWICE.replace("n (a)", "o (a)"), TOP.replace("n((", "o((")))
        self.assertEqual((len(told), state[1]), (3, ((0,), (0, ()), 10)))
        # Another place, and another way.
        told, _ = self.over((COUNT, TOP), ("MODULE m (a) OUT (y)\nv = 1\nx = n((a + (0 THEN a)))\ny = (IF (BEATS (10)) THEN x ELSE 0)",))
        self.assertEqual(told, [])
        told, _ = self.over((COUNT, TOP), (TOP + "\nz = n(a)",))
        self.assertEqual(len(told), 3)

    def test_again_and_back(self):
        store = Store(some(COUNT))
        store.begin("r", "n")
        for at in range(3):
            store.feed("r", {"a": 5})
        store.put(read_module(TWICE))
        self.assertEqual(store.over(title="r"), [((), (0, ()))])
        self.assertEqual(store.feed("r", {"a": 1}), {"x": 15})
        self.assertEqual(store.feed("r", {"a": 1}), {"x": 17})
        self.assertEqual(len(store.run_of("r")), 2)
        for _ in range(3):
            store.back()
        run = store.run_of("r")
        run.back(3)
        self.assertEqual((store.feed("r", {"a": 1}), len(store.run_of("r"))), ({"x": 15}, 4))
        self.assertEqual(store.feed("r", {"a": 1}), {"x": 16})

    def test_refused(self):
        store = Store(some(COUNT, SPLIT))
        store.begin("r", "n")
        store.feed("r", {"a": 5})
        with self.assertRaises(NoTitle):
            store.over("q")
        store.drop("n")
        with self.assertRaises(NoName) as caught:
            store.over("r")
        self.assertEqual(caught.exception.name, "n")
        with self.assertRaises(NoTitle):
            store.over("n")
        store.put(read_module(RINGED))
        with self.assertRaises(NoFace) as caught:
            store.over("r")
        self.assertEqual(caught.exception.paper, ("ring", ["x"]))
        self.assertEqual(store.feed("r", {"a": 1}), {"x": 5})


class Settled(unittest.TestCase):
    def test_faces(self):
        store = Store(some(COUNT, TOP, SPLIT))
        self.assertEqual([name for name, _ in store.faces()], ["n", "m", "s"])
        self.assertEqual(store.faces()[0], ("n", (("number", "number"), ((), ()), ((),))))
        store.put(read_module(RINGED))
        self.assertEqual([told is None for _, told in store.faces()], [True, True, False])
        self.assertEqual(Store().faces(), [])

    def test_by_hand(self):
        store = Store(some(SPLIT, COUNT, TOP))
        self.assertEqual(store.settle(), ["s", "n", "m"])
        self.assertEqual(store.settle(), [])
        # Another module of the same face: those that call it needn't be looked at.
        store.put(read_module(TWICE))
        self.assertEqual(store.settle(), ["n"])
        store.put(read_module(TRUTHS.replace("(NOT (a < 3))", "(a < 3)").replace("x = (TRUE THEN ", "x = (0 THEN a)\ny = (TRUE THEN ")))
        self.assertEqual(store.settle(), ["n"])
        # Another face, and none at all; why there is none doesn't count.
        store.put(read_module("MODULE n (a) OUT (x)\nx = (a + 1)"))
        self.assertEqual(store.settle(), ["n", "m"])
        store.put(read_module(RINGED))
        self.assertEqual(store.settle(), ["n", "m"])
        store.put(read_module("MODULE n (a) OUT (x)\nx = (a AND (a + 1))"))
        self.assertEqual(store.settle(), ["n"])
        store.put(read_module("MODULE n (a) OUT (x)\nx = (a + 1)"))
        self.assertEqual(store.settle(), ["n", "m"])
        # There and back is no change; nor is a feed.
        store.put(read_module(COUNT))
        store.back()
        store.begin("r", "m")
        store.feed("r", {"a": 1})
        self.assertEqual(store.settle(), [])
        store.drop("s")
        store.put(read_module(SPLIT))
        self.assertEqual(store.settle(), [])
        store.drop("s")
        self.assertEqual(store.settle(), [])
        store.put(read_module(SPLIT))
        self.assertEqual(store.settle(), ["s"])

    def test_those_called_ahead_by_the_calls_between_told_ones_alone(self):
        low, mid, top = "MODULE z () OUT (x)\nx = 1", "MODULE y () OUT (x)\nx = z()", "MODULE x () OUT (x)\nx = y()"
        store = Store(read_modules("\n\n".join((top, "MODULE w () OUT (x)\nx = 2", mid, low))))
        self.assertEqual(store.settle(), ["w", "z", "y", "x"])
        # The middle one's face is as it was: between top and low no told one stands.
        store.put(read_module(top.replace("x = y()", "x = y()\nv = 1")))
        store.put(read_module(low.replace("1", "3")))
        self.assertEqual(store.settle(), ["x", "z"])
        store.put(read_module(low.replace("1", "TRUE")))
        # Kinds go up through the middle one.
        self.assertEqual(store.settle(), ["z", "y", "x"])
        store.put(read_module(top))
        self.assertEqual(store.settle(), ["x"])

    def test_no_deed_and_no_back_changes_what_settle_remembers(self):
        store = Store(some(COUNT))
        store.put(read_module(SPLIT))
        self.assertEqual(store.settle(), ["n", "s"])
        store.back()
        self.assertEqual(store.settle(), [])
        store.again()
        self.assertEqual(store.settle(), ["s"])
        store.back()
        store.again()
        self.assertEqual(store.settle(), [])
        self.assertEqual(Store(some(COUNT)).settle(), ["n"])


class Back(unittest.TestCase):
    def test_each_deed(self):
        store = Store(some(COUNT))
        for kind in (store.back, store.again):
            with self.assertRaises(NoBack):
                kind()
        deeds = [lambda: store.begin("r", "n"), lambda: store.feed("r", {"a": 5}), lambda: store.put(read_module(TWICE)),
                 lambda: store.feed("r", {"a": 1}), lambda: store.begin("q", "n"), lambda: store.over("r"), lambda: store.feed("r", {"a": 1}),
                 lambda: store.put(read_module(SPLIT)), lambda: store.end("r"), lambda: store.drop("s"), lambda: store.begin("r", "n"),
                 lambda: store.feed("q", {"a": 9})]
        stands = [self.stand(store)]
        for deed in deeds:
            deed()
            stands.append(self.stand(store))
        self.assertEqual(store.titles(), ["q", "r"])
        for _ in range(3):
            for at in range(len(deeds) - 1, -1, -1):
                self.assertIsNone(store.back())
                self.assertEqual(self.stand(store), stands[at])
            with self.assertRaises(NoBack):
                store.back()
            for at in range(len(deeds)):
                self.assertIsNone(store.again())
                self.assertEqual(self.stand(store), stands[at + 1])
            with self.assertRaises(NoBack):
                store.again()

    def stand(self, store):
        runs = [(title, store.run_of(title).state(), store.run_of(title).flows(), len(store.run_of(title))) for title in store.titles()]
        return (store.modules(), runs, store.faces())

    def test_a_deed_forgets_those_taken_back(self):
        store = Store(some(COUNT))
        for title in "abc":
            store.begin(title, "n")
        store.back()
        store.back()
        with self.assertRaises(NoTitle):
            store.begin("a", "n")
        with self.assertRaises(NoTitle):
            store.deeds([("begin", "d", "n"), ("begin", "a", "n")])
        with self.assertRaises(NoDeed):
            store.deeds([None], keep=True)
        self.assertEqual(store.deeds([]), [])
        store.again()
        self.assertEqual(store.titles(), ["a", "b"])
        store.feed("a", {"a": 1})
        with self.assertRaises(NoBack):
            store.again()
        store.back()
        store.again()
        self.assertEqual(len(store.run_of("a")), 1)

    def test_titles_in_their_order_behind_back(self):
        store = Store(some(COUNT))
        for title in "cab":
            store.begin(title, "n")
        store.end("c")
        store.end("a")
        store.back()
        store.back()
        self.assertEqual(store.titles(), ["c", "a", "b"])
        store.over("c")
        self.assertEqual(store.titles(), ["c", "a", "b"])


class Rows(unittest.TestCase):
    def setUp(self):
        self.store = Store(some(COUNT))

    def test_done(self):
        store = self.store
        told = store.deeds([("put", read_module(SPLIT)), ("begin", "r", "n"), ("feed", "r", {"a": 4}), ("feed", "r", {"a": 4}), ("over", "r"),
                            ("begin", "q", "s"), ("end", "q"), ("drop", "s")])
        self.assertEqual(told, [None, None, {"x": 0}, {"x": 4}, [((), (0, ()))], None, None, None])
        self.assertEqual((store.titles(), len(store)), (["r"], 1))
        store.back()
        self.assertEqual((store.titles(), store.modules()), ([], some(COUNT)))
        with self.assertRaises(NoBack):
            store.back()
        store.again()
        self.assertEqual(store.feed("r", {"a": 1}), {"x": 8})

    def test_none(self):
        store = self.store
        self.assertEqual(store.deeds([], keep=True), [])
        self.assertEqual(store.log(), [("deeds", "begun"), ("deeds", "done")])
        with self.assertRaises(NoBack):
            store.back()

    def refused(self, kind, at, rows, log):
        for keep in (False, True):
            store = Store(some(COUNT))
            store.begin("z", "n")
            store.end("z")
            store.back()
            with self.assertRaises(kind) as caught:
                store.deeds(rows=rows, keep=keep)
            if kind is NoDeed:
                self.assertEqual(caught.exception.at, at)
            self.assertEqual(store.log()[3:], [("deeds", "begun")] + log + [("deeds", "refused")])
            expected = Store(some(COUNT))
            expected.begin("z", "n")
            for row in rows[:at] if keep else []:
                getattr(expected, row[0])(*row[1:])
            self.assertEqual((store.modules(), store.titles()), (expected.modules(), expected.titles()))
            for title in store.titles():
                self.assertEqual(store.run_of(title).state(), expected.run_of(title).state())
            if keep and at:
                with self.assertRaises(NoBack):
                    store.again()
                store.back()
                self.assertEqual((store.modules(), store.titles(), len(store.run_of("z"))), (some(COUNT), ["z"], 0))
            else:
                store.again()
                self.assertEqual(store.titles(), [])

    def test_refused_at_the_first_a_later_the_last(self):
        fine = [("put", read_module(SPLIT)), ("begin", "r", "n"), ("feed", "r", {"a": 3}), ("feed", "z", {"a": 3}), ("drop", "s")]
        for at in range(len(fine) + 1):
            log = [(row[0], "done") for row in fine[:at]]
            for row, kind in ((("drop", "q"), NoName), (("begin", "z", "n"), NoTitle), (("feed", "z", {}), NoBeat), (("over", "q"), NoTitle),
                              (("put", None), NoBook), (("end", "Q"), NoTitle)):
                self.refused(kind, at, fine[:at] + [row] + fine[at:], log + [(row[0], "refused")])
            for row in ANYTHING + (("put",), ("put", read_module(SPLIT), 1), ("begin", "q"), ("feed", "r"), ("back",), ("again",), ("deeds", []),
                                   ["drop", "s"], ("Put", read_module(SPLIT)), ("settle",), ("log",), (1, 2), (["put"], 2), ((), 1)):
                self.refused(NoDeed, at, fine[:at] + [row] + fine[at:], log)


class Logs(unittest.TestCase):
    def test_by_hand(self):
        store = Store(some(COUNT))
        for call, handed in ((store.put, (read_module(SPLIT),)), (store.put, (None,)), (store.drop, ("q",)), (store.drop, ("s",)),
                             (store.begin, ("r", "n")), (store.begin, ("r", "n")), (store.feed, ("r", {"a": 1})), (store.feed, ("r", {})),
                             (store.over, ("r",)), (store.over, ("q",)), (store.end, ("q",)), (store.end, ("r",)), (store.back, ()),
                             (store.again, ()), (store.again, ()), (store.deeds, ([("drop", "n"), ("drop", "n")],)),
                             (store.deeds, ([("drop", "n"), None, ("drop", "n")],))):
            try:
                call(*handed)
            except LoomError:
                pass
        expected = [(word, end) for word, end in (text.split() for text in (
            "put done, put refused, drop refused, drop done, begin done, begin refused, feed done, feed refused, over done, over refused, "
            "end refused, end done, back done, again done, again refused, deeds begun, drop done, drop refused, deeds refused, deeds begun, "
            "drop done, deeds refused").split(", "))]
        self.assertEqual(store.log(), expected)
        store.modules(), store.faces(), store.settle(), store.titles(), store.run_of("r") if store.titles() else None
        store.log().clear()
        self.assertEqual(store.log(), expected)
        while len(store.log()) < 40:
            try:
                store.back()
            except NoBack:
                pass
        self.assertEqual(store.log()[:22], expected)
        self.assertEqual(store.log()[-1], ("back", "refused"))


class Whole(unittest.TestCase):
    def rows(self, chance, slow, grown):
        """A deed of any kind, often one that may be done."""
        now = slow.now()
        titles = list(now.runs) + ["a", "b", "Q"]
        word = chance.choice(("put", "put", "drop", "begin", "feed", "feed", "feed", "over", "end"))
        if word == "put":
            return ("put", chance.choice(grown + [read_module(text) for text in (COUNT, TWICE, TRUTHS, RINGED, TOP, SPLIT)] + [None]))
        if word == "drop":
            return ("drop", chance.choice([module[0] for module in now.names] + ["q"]))
        if word == "begin":
            return ("begin", chance.choice("abcd"), chance.choice([module[0] for module in now.names] + ["q"]))
        title = chance.choice(titles)
        if word == "feed":
            if title not in now.runs:
                return ("feed", title, {"a": 1})
            book, name, run = now.runs[title]
            beat = right_beat(chance, doors_of(book, name), book.measure())
            return ("feed", title, beat if chance.random() < 0.9 else {})
        return (word, title)

    def alike(self, store, slow, call, other):
        """That two calls tell the same, or are refused the same, and that both stand the same behind them."""
        try:
            told = (None, other())
        except LoomError as error:
            told = (type(error), vars(error))
        try:
            found = (None, call())
        except LoomError as error:
            found = (type(error), vars(error))
        self.assertEqual(repr(found), repr(told))
        now = slow.now()
        self.assertEqual(store.modules(), now.names)
        self.assertEqual(store.titles(), list(now.runs))
        self.assertEqual(store.log(), slow.log)
        self.assertEqual(store.faces(), slow.faces())
        self.assertEqual(len(store), len(now.names))
        for title in now.runs:
            run, beside = store.run_of(title), now.runs[title][2]
            self.assertEqual(repr((run.state(), run.flows(), len(run))), repr((beside.state(), beside.flows(), len(beside))))

    def test_as_one_begun_anew_at_each_deed(self):
        for seed in range(25):
            chance = Random(seed)
            grown = []
            for more in range(3):
                grown += Grower(100 * seed + more, rows=3, deep=2 + seed % 2).book(3).modules()
            store, slow = Store(grown[:3], measure=50), SlowStore(grown[:3], 50)
            for _ in range(35):
                turn = chance.random()
                if turn < 0.15:
                    self.alike(store, slow, store.back, slow.back)
                elif turn < 0.25:
                    self.alike(store, slow, store.again, slow.again)
                elif turn < 0.35:
                    self.alike(store, slow, store.settle, slow.settle)
                elif turn < 0.5:
                    rows = [self.rows(chance, slow, grown) for _ in range(chance.randrange(5))]
                    if chance.random() < 0.2:
                        rows.insert(chance.randrange(len(rows) + 1), chance.choice((None, ("put",), ("back",), "drop", ("over", "a", "b"))))
                    keep = chance.random() < 0.5
                    self.alike(store, slow, lambda: store.deeds(rows, keep=keep), lambda: slow.deeds(rows, keep))
                else:
                    row = self.rows(chance, slow, grown)
                    self.alike(store, slow, lambda: getattr(store, row[0])(*row[1:]), lambda: slow.deed(*row))

    def test_two_share_nothing(self):
        modules = some(COUNT)
        one, other = Store(modules), Store(modules)
        one.put(read_module(TWICE))
        one.begin("r", "n")
        one.feed("r", {"a": 5})
        one.settle()
        self.assertEqual((other.modules(), other.titles(), other.log()), (some(COUNT), [], []))
        with self.assertRaises(NoBack):
            other.back()
        self.assertEqual(other.settle(), ["n"])
        other.begin("r", "n")
        self.assertEqual((other.feed("r", {"a": 5}), other.feed("r", {"a": 5})), ({"x": 0}, {"x": 5}))
        self.assertEqual(one.feed("r", {"a": 5}), {"x": 10})

    def test_what_is_told_or_handed_in_may_be_changed(self):
        modules, more = some(COUNT, TOP), read_module(SPLIT)
        store = Store(modules)
        modules[1][3].clear()
        modules.clear()
        store.put(more)
        more[3].clear()
        beat = {"a": 4}
        rows = [("begin", "r", "m"), ("feed", "r", beat)]
        told = store.deeds(rows)
        told[1].clear()
        told.clear()
        rows.clear()
        beat["a"] = 9
        for module in store.modules():
            for row in module[3]:
                if row[1][0] == "call":
                    row[1][2].clear()
            module[3].clear()
        for listed in (store.modules(), store.titles(), store.faces(), store.settle(), store.log(), store.over("r"),
                       store.run_of("r").state(), store.run_of("r").flows()):
            listed.clear()
        self.assertEqual(store.modules(), some(COUNT, TOP, SPLIT))
        store.back()
        self.assertEqual(store.run_of("r").flows()[0], ("a", 4))
        store.back()
        store.again()
        self.assertEqual(store.run_of("r").flows()[0], ("a", 4))
        self.assertEqual((store.titles(), store.settle(), len(store.log())), (["r"], [], 9))

    def test_told_soon(self):
        texts = ["MODULE ma (a, c) OUT (x, y)\nx = (a WHEN c)\ny = (a UNLESS c)"]
        for name, below in zip("bcdefghijkl", "abcdefghijk"):
            texts.append(f"MODULE m{name} (a, c) OUT (x, y)\nx, z = m{below}(a, c)\nv, y = m{below}(a, c)")
        store = Store(read_modules("\n\n".join(texts)))
        store.begin("r", "ma")
        begin = time.monotonic()
        for at in range(100):
            store.put(read_module(texts[at % 12] + f"\nw = {at}"))
            store.faces()
            store.settle()
        for at in range(3000):
            store.feed("r", {"a": at, "c": True})
        for _ in range(3100):
            store.back()
        for _ in range(3100):
            store.again()
        self.assertEqual(len(store.run_of("r")), 3000)
        self.assertLess(time.monotonic() - begin, 20)


if __name__ == "__main__":
    unittest.main()
