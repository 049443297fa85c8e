"""Nets that run (41, 42)."""

import time
import unittest
from random import Random

from clockloom.books import Book
from clockloom.driving import earliest
from clockloom.errors import Dry, NoBeat, NoDrive, Over, TooLong
from clockloom.nets import Net, lanes_told, net_wrong
from clockloom.netruns import NetRun
from clockloom.texts import read_modules
from tests.making import ANYTHING, book_of
from tests.netmaking import Knotter
from tests.slownets import SlowNet
from tests.test_parts import long_book

COPY = "MODULE copy (a) OUT (x)\nx = a"
SUM = "MODULE sum (a, b) OUT (x, y)\nx = (a + b)\ny = (0 THEN (y + a))"
GIVE = "MODULE give () OUT (x, b)\nx = (n WHEN b)\nn = (0 THEN (n + 1))\nb = (BEATS (10))"
TOLD = "MODULE told (a) OUT (x)\nx = (NOT a)"
BOTH = "MODULE both (a, b) OUT (x, y)\nx = a\ny = b\nz = (a = b)"
SIGN = ("", "1")


def net_of(instances, *lanes):
    """A net of instances by texts "title name", and lanes by texts "giver out taker in" with first worths and a room."""
    made = tuple(tuple(text.split()) for text in instances.split(", "))
    book = Book(read_modules("\n\n".join((COPY, SUM, GIVE, TOLD, BOTH))), measure=50)
    return Net(book, (made, tuple((*text.split(), first, room) for text, first, room in lanes)))


class Goes(unittest.TestCase):
    def test_by_hand(self):
        net = net_of("p sum, q copy, r give", ("q x p a", (7,), 2), ("r x q a", (), 3))
        run = NetRun(net, {"p": SIGN, "q": ("", "01"), "r": ("", "1")})
        self.assertEqual((len(run), run.lying()), (0, [[7], []]))
        told = run.beat({("p", "b"): 5})
        self.assertEqual(list(told.items()), [(("p", "x"), 12), (("p", "y"), 0), (("r", "x"), 0), (("r", "b"), True)])
        self.assertEqual((len(run), run.lying()), (1, [[], [0]]))
        with self.assertRaises(Dry) as caught:
            run.beat({("p", "b"): 5})
        self.assertEqual(caught.exception.lane, 0)
        self.assertEqual((len(run), run.lying()), (1, [[], [0]]))
        run = NetRun(drive={"p": ("10", "01"), "q": ("0", "10"), "r": ("", "1")}, net=net)
        told = [run.beat(handed={("p", "b"): at} if at in (0, 3, 5) else {}) for at in range(6)]
        self.assertEqual([at.get(("p", "x")) for at in told], [7, None, None, 3, None, 7])
        self.assertEqual([at.get(("p", "y")) for at in told], [0, None, None, 7, None, 7])
        self.assertEqual([at.get(("q", "x")) for at in told], [None, 0, None, 2, None, 4])
        self.assertEqual([at[("r", "x")] for at in told], [0, None, 2, None, 4, None])
        self.assertEqual(run.lying(), [[4], []])

    def test_the_longest_there_first(self):
        run = NetRun(net_of("p copy, q copy", ("p x q a", (1, 2, 3), 4)), {"p": SIGN, "q": SIGN})
        told = [run.beat({("p", "a"): at})[("q", "x")] for at in (11, 12, 13, 14)]
        self.assertEqual((told, run.lying()), ([1, 2, 3, 11], [[12, 13, 14]]))

    def test_taken_and_put_at_one_beat(self):
        # What is put can be taken later alone, and what is taken leaves its room later alone.
        with self.assertRaises(Dry):
            NetRun(net_of("p copy, q copy", ("p x q a", (), 1)), {"p": SIGN, "q": SIGN}).beat({("p", "a"): 1})
        with self.assertRaises(Over):
            NetRun(net_of("p copy, q copy", ("p x q a", (5,), 1)), {"p": SIGN, "q": SIGN}).beat({("p", "a"): 1})
        run = NetRun(net_of("p copy", ("p x p a", (3,), 2)), {"p": SIGN})
        self.assertEqual(([run.beat({}) for _ in range(2)], run.lying()), ([{("p", "x"): 3}] * 2, [[3]]))

    def test_one_out_to_several_lanes(self):
        run = NetRun(net_of("p copy, q sum", ("p x q a", (), 2), ("p x q b", (9,), 3)), {"p": SIGN, "q": ("0", "1")})
        run.beat({("p", "a"): 4})
        self.assertEqual(run.beat({("p", "a"): 5})[("q", "x")], 13)
        self.assertEqual(run.lying(), [[5], [4, 5]])

    def test_none_steps(self):
        run = NetRun(net_of("p copy"), {"p": ("0", "01")})
        self.assertEqual([run.beat({}), run.beat({}), run.beat({("p", "a"): 1})], [{}, {}, {("p", "x"): 1}])
        self.assertEqual((len(run), run.lying()), (3, []))

    def test_two_instances_of_one_module(self):
        run = NetRun(net_of("p give, q give"), {"p": SIGN, "q": ("0", "1")})
        told = [run.beat({}) for _ in range(4)]
        self.assertEqual([at[("p", "x")] for at in told], [0, None, 2, None])
        self.assertEqual([at.get(("q", "x")) for at in told], [None, 0, None, 2])

    def test_as_slow_nets_go(self):
        seen = {}
        for seed in range(160):
            maker = Knotter(seed, signs=2 + seed % 2)
            book = maker.book(1 + seed % 3)
            made = maker.net(book, 1 + seed % 4, rooms=seed % 2, full=(0.5, 0.9)[seed % 2])
            if net_wrong(book, made) is not None:
                continue
            net, slow = Net(book, made), SlowNet(book, made)
            chance = Random(seed)
            for drive in ([earliest(net)] if seed % 2 else []) + [maker.drive(made), maker.drive(made)]:
                fed = [{door: self.worth(net, door, chance) for door in some} for some in slow.due(drive, 14)]
                run = NetRun(net, drive)
                told = lanes_told(net, drive)
                for handed, expected in zip(fed, slow.run(drive, fed)):
                    if expected[0] in ("dry", "over"):
                        with self.assertRaises({"dry": Dry, "over": Over}[expected[0]]) as caught:
                            run.beat(handed)
                        self.assertEqual(caught.exception.lane, expected[1])
                        self.assertEqual(told[expected[1]], (expected[0], len(run)))
                        break
                    self.assertFalse([line for line in told if line[0] in ("dry", "over") and line[1] == len(run)])
                    answer = run.beat(handed)
                    self.assertEqual(repr(list(answer.items())), repr(list(expected[0].items())))
                    self.assertEqual(run.lying(), expected[1])
                    answer.clear()
                seen[expected[0] if expected[0] in ("dry", "over") else None] = True
                if seed % 2 and drive == earliest(net):
                    self.assertEqual(len(run), 14)
        self.assertEqual(len(seen), 3)

    def worth(self, net, door, chance):
        """A worth that may be handed in at a door."""
        kinds = {(instance.title, x): instance.kind_of[x] for instance in net.instances for x in instance.ins}
        return chance.random() < 0.5 if kinds[door] == "truth" else chance.randrange(9)

    def test_steps_tell_the_same_by_whatever_drive(self):
        for seed in range(60):
            maker = Knotter(seed, signs=2)
            book = maker.book(1 + seed % 2)
            made = maker.net(book, 1 + seed % 3, rooms=True)
            if net_wrong(book, made) is not None:
                continue
            net, slow, chance = Net(book, made), SlowNet(book, made), Random(seed)
            worths = {door: [self.worth(net, door, chance) for _ in range(60)] for door in net.doors()}
            rows = []
            for turn in range(3):
                # The earliest drive, and two that let go by some beats at which it might go on.
                drive = earliest(net)
                if turn:
                    drive = self.slowed(slow, chance)
                rows.append(self.row(net, slow, drive, worths))
            for key in rows[0]:
                for row in rows[1:]:
                    many = min(len(row[key]), len(rows[0][key]))
                    self.assertEqual(repr(row[key][:many]), repr(rows[0][key][:many]))

    def slowed(self, slow, chance):
        """An orderly drive of 30 beats."""
        lies, steps = [len(lane[4]) for lane in slow.lanes], {x: 0 for x, _ in slow.instances}
        signs = {x: "" for x in steps}
        for _ in range(30):
            some = [x for x in steps if chance.random() < 0.6 and not slow.needs(x, steps[x], lies)]
            for k in range(len(lies)):
                lies[k] += sum(slow.puts(k, x, steps[x]) - slow.takes(k, x, steps[x]) for x in some)
            for x in steps:
                steps[x] += x in some
                signs[x] += "1" if x in some else "0"
        return {x: (signs[x], "0") for x in steps}

    def row(self, net, slow, drive, worths):
        """What each out tells step by step."""
        run, many, told = NetRun(net, drive), {}, {}
        for some in slow.due(drive, 30):
            handed = {}
            for door in some:
                handed[door] = worths[door][many.get(door, 0)]
                many[door] = many.get(door, 0) + 1
            for key, worth in run.beat(handed).items():
                told.setdefault(key, []).append(worth)
        return {**{key: [] for key in told}, **told}

    def test_told_soon(self):
        book = long_book(2000)
        net = Net(book, ((("p", "m"), ("q", "m")), (("p", "zaa", "q", "a", (), 2),)))
        begin = time.monotonic()
        run = NetRun(net, {"p": SIGN, "q": ("0", "1" * 19999)})
        for at in range(60):
            run = run.copy()
            told = run.beat({("p", "a"): 1, ("p", "b"): 1, ("q", "b"): 1} if at else {("p", "a"): 1, ("p", "b"): 1})
        self.assertEqual((told[("p", "zaa")], told[("q", "zaa")]), (59, 57 * 58 // 2))
        self.assertLess(time.monotonic() - begin, 10)


class Refused(unittest.TestCase):
    def refused(self, kind, told, run, handed):
        before = (run.lying(), len(run))
        with self.assertRaises(kind) as caught:
            run.beat(handed)
        error = caught.exception
        self.assertEqual(repr(error.name if kind is NoBeat else error.lane), repr(told), handed)
        self.assertEqual((run.lying(), len(run)), before)

    def test_drives(self):
        net = net_of("p copy, q copy")
        for drive in ({}, {"p": SIGN}, {"p": SIGN, "q": SIGN, "r": SIGN}, {"p": SIGN, "q": "1"}, {"p": SIGN, "q": ("", "")}):
            with self.assertRaises(NoDrive):
                NetRun(net, drive)

    def test_too_long(self):
        net = Net(long_book(2001), ((("p", "m"),), ()))
        with self.assertRaises(NoDrive):
            NetRun(net, {})
        with self.assertRaises(TooLong):
            NetRun(net, {"p": SIGN})
        self.assertEqual(len(NetRun(Net(long_book(2000), ((("p", "m"),), ())), {"p": SIGN})), 0)

    def test_dry_ahead_of_over_ahead_of_no_beat(self):
        net = net_of("p sum, q both, r copy", ("p x q a", (1,), 1), ("p x q b", (), 1), ("r x p a", (), 1), ("q x r a", (2,), 2))
        drive = {"p": SIGN, "q": SIGN, "r": SIGN}
        self.refused(Dry, 1, NetRun(net, drive), {})
        self.refused(Dry, 2, NetRun(net, {**drive, "q": ("0", "1")}), {"zz": 1})
        self.refused(Dry, 1, NetRun(net, {**drive, "p": ("0", "1")}), {})
        run = NetRun(net, {"p": ("01", "1"), "q": ("0", "0"), "r": ("1", "0")})
        self.assertEqual(run.beat({}), {("r", "x"): 2})
        self.refused(Over, 0, run, {"zz": 1})
        net = net_of("p copy, q copy, r copy", ("p x q a", (), 1), ("p x r a", (1,), 1))
        self.refused(Over, 1, NetRun(net, {"p": SIGN, "q": ("0", "1"), "r": ("0", "1")}), {})
        self.refused(Dry, 0, NetRun(net, {"p": SIGN, "q": SIGN, "r": ("0", "1")}), {})
        self.refused(NoBeat, ("p", "a"), NetRun(net, {"p": ("0", "1"), "q": ("00", "1"), "r": ("", "0")}), {("p", "a"): 1})

    def test_the_least_lane(self):
        net = net_of("p copy, q copy, r copy, s copy", ("p x q a", (1,), 1), ("q x r a", (), 1), ("r x s a", (1,), 1), ("s x p a", (), 1))
        self.refused(Dry, 1, NetRun(net, {sign: SIGN for sign in "pqrs"}), {})
        self.refused(Dry, 3, NetRun(net, {"p": SIGN, "q": SIGN, "r": ("", "0"), "s": SIGN}), {})
        net = net_of("p copy, q copy, r copy", ("p x q a", (1, 1), 2), ("r x r a", (1,), 1), ("p x p a", (5,), 1))
        self.refused(Over, 0, NetRun(net, {"p": SIGN, "q": ("", "0"), "r": SIGN}), {})
        self.refused(Over, 1, NetRun(net, {"p": ("0", "1"), "q": ("", "0"), "r": SIGN}), {})
        net = net_of("p copy, q sum", ("q x q a", (5,), 9), ("p x p a", (1,), 9), ("p x q b", (2, 2), 2))
        self.refused(Over, 2, NetRun(net, {"p": SIGN, "q": SIGN}), {})

    def test_doors_due(self):
        net = net_of("p sum, q told, r sum", ("p x r a", (1,), 5))
        run = NetRun(net, {"p": SIGN, "q": ("0", "1"), "r": ("00", "1")})
        fine = {("p", "a"): 1, ("p", "b"): 2}
        for name, handed in ((("p", "a"), {}), (("p", "b"), {("p", "a"): 1}), (("p", "a"), {("p", "b"): 1, ("q", "a"): 1}),
                             (("p", "b"), {("p", "b"): None, ("p", "a"): 1, 3: 4})):
            self.refused(NoBeat, name, run, handed)
        for thing in ANYTHING + (50, 10 ** 29, -1, 1.0):
            if not isinstance(thing, int) or isinstance(thing, bool) or not 0 <= thing < 50:
                self.refused(NoBeat, ("p", "a"), run, {("p", "b"): 2, ("p", "a"): thing})
                self.refused(NoBeat, ("p", "b"), run, {("p", "b"): thing, ("p", "a"): 2})
        # The doors' own order goes, not that in which they are handed in.
        self.refused(NoBeat, ("p", "a"), run, {("p", "b"): None, ("p", "a"): None})
        for key in (("q", "a"), ("r", "b"), ("r", "a"), ("p", "x"), ("p", "c"), "p", "", None, True, 0, 10 ** 29, ("p",), ("p", "a", 1),
                    (), (((("p", "a"),),),), ("p", None), (1, 2), (("p", "a"), 1), (None, "a"), ("q", ("a",))):
            self.refused(NoBeat, key, run, {**fine, key: 1})
            self.refused(NoBeat, key, run, {key: None, **fine})
            self.refused(NoBeat, key, run, {("p", "a"): 1, key: 1, "zz": 1, **fine, (): 1})
            self.refused(NoBeat, ("p", "b"), run, {key: 1, ("p", "a"): 1})
        self.assertEqual(run.beat(fine), {("p", "x"): 3, ("p", "y"): 0})
        self.refused(NoBeat, ("q", "a"), run, {**fine, ("q", "a"): 1})
        self.refused(NoBeat, ("q", "a"), run, fine)
        self.refused(NoBeat, ("r", "b"), run, {**fine, ("q", "a"): True, ("r", "b"): 1})
        self.assertEqual(run.beat({("q", "a"): True, **fine})[("q", "x")], False)
        self.assertEqual(run.lying(), [[1, 3, 3]])

    def test_kinds_of_lots(self):
        for lanes, fine, wrong in (
            ((), 1, True), ((("c x d a", (), 3),), 1, True), ((("c x d a", (True,), 3),), False, 0),
            ((("c x t a", (), 3),), True, 1), ((("c x d a", (0,), 3),), 1, False),
        ):
            net = net_of("c copy, d copy, t told, b both", *lanes)
            run = NetRun(net, {"c": SIGN, "d": ("", "0"), "t": ("", "0"), "b": ("", "0")})
            self.refused(NoBeat, ("c", "a"), run, {("c", "a"): wrong})
            self.assertEqual(repr(run.beat({("c", "a"): fine})), repr({("c", "x"): fine}))
        # By other lanes of the same lot: b's in b has truths, as its other in does.
        net = net_of("b both, t told", ("t x b a", (True,), 2))
        run = NetRun(net, {"b": SIGN, "t": ("", "0")})
        self.refused(NoBeat, ("b", "b"), run, {("b", "b"): 1})
        self.assertEqual(run.beat({("b", "b"): False}), {("b", "x"): True, ("b", "y"): False})

    def test_what_is_refused_changes_nothing(self):
        net = net_of("p sum, q copy", ("p y q a", (), 2))
        run, beside = (NetRun(net, {"p": SIGN, "q": ("0", "1")}) for _ in range(2))
        for at in range(6):
            for handed in ({}, {("p", "a"): at}, {("p", "a"): at, ("p", "b"): True}, {("p", "a"): at, ("p", "b"): 1, "x": 1}):
                with self.assertRaises(NoBeat):
                    run.beat(handed)
            handed = {("p", "a"): at, ("p", "b"): 1}
            self.assertEqual(run.beat(handed), beside.beat(handed))
            self.assertEqual(run.lying(), beside.lying())


class Apart(unittest.TestCase):
    def test_copies(self):
        net = net_of("p sum, q copy", ("p y q a", (7,), 3))
        run = NetRun(net, {"p": SIGN, "q": ("0", "1")})
        run.beat({("p", "a"): 3, ("p", "b"): 1})
        other = run.copy()
        self.assertIsInstance(other, NetRun)
        self.assertEqual((len(other), other.lying()), (1, [[7, 0]]))
        for _ in range(2):
            run.beat({("p", "a"): 10, ("p", "b"): 1})
        self.assertEqual((len(other), other.lying(), len(run), run.lying()), (1, [[7, 0]], 3, [[3, 13]]))
        self.assertEqual(other.beat({("p", "a"): 1, ("p", "b"): 1}), {("p", "x"): 2, ("p", "y"): 3, ("q", "x"): 7})
        self.assertEqual((other.lying(), run.lying()), ([[0, 3]], [[3, 13]]))
        self.assertEqual(other.copy().copy().beat({("p", "a"): 1, ("p", "b"): 1})[("p", "y")], 4)

    def test_what_is_told_or_handed_in_may_be_changed(self):
        net = net_of("p sum, q copy", ("p y q a", (7,), 3))
        drive = {"p": SIGN, "q": ("0", "1")}
        run = NetRun(net, drive)
        drive.clear()
        handed = {("p", "a"): 3, ("p", "b"): 1}
        run.beat(handed).clear()
        handed.clear()
        run.lying()[0].clear()
        run.lying().clear()
        self.assertEqual(run.lying(), [[7, 0]])
        self.assertEqual(run.beat({("p", "a"): 0, ("p", "b"): 1})[("p", "y")], 3)
        self.assertEqual(run.copy().beat({("p", "a"): 0, ("p", "b"): 1})[("q", "x")], 0)


if __name__ == "__main__":
    unittest.main()
