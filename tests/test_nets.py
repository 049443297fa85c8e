"""Nets, and what their lanes come to (34 to 37)."""

import time
import unittest

from clockloom.books import Book
from clockloom.errors import NoDrive, NoLane, NoNet, TooLong
from clockloom.nets import Net, lane_judged, lanes_told, net_wrong
from clockloom.texts import read_modules
from tests.making import ANYTHING, SPLIT, book_of
from tests.netmaking import Knotter
from tests.slownets import SlowNet

COPY = "MODULE copy (a) OUT (x)\nx = a"
PAIR = "MODULE pair (a, b) OUT (x, y)\nx = a\ny = (a = b)"
GIVE = "MODULE give () OUT (x, n, b)\nx = (n WHEN b)\nn = (0 THEN (n + 1))\nb = (BEATS (10))"
LATE = "MODULE late (a) OUT (x, b)\nx = (a UNLESS b)\nb = (BEATS 11(0))"
TOLD = "MODULE told (a) OUT (x)\nx = (NOT a)"
MODULES = (COPY, PAIR, GIVE, LATE, TOLD, SPLIT, "MODULE bad (a) OUT (x)\nx = (x + a)")
SIGN = ("", "1")


def books():
    return Book(read_modules("\n\n".join(MODULES)), measure=50)


def chain(first=(), room=None, *more, giver="copy", out="x"):
    """A net of two, of a lane from the one to the other."""
    return ((("p", giver), ("q", "copy")), (("p", out, "q", "a", first, room), *more))


class Wrong(unittest.TestCase):
    def wrong(self, thing, told):
        book = books()
        self.assertEqual(repr(net_wrong(book, thing)), repr(told), thing)
        if told is None:
            self.assertEqual(Net(book, thing).shape(), thing)
        else:
            with self.assertRaises(NoNet) as caught:
                Net(book, thing)
            self.assertEqual(caught.exception.wrong, told)

    def test_net(self):
        for thing in ANYTHING + ([(("p", "copy"),), ()], ([("p", "copy")], ()), ((("p", "copy"),), []), ((("p", "copy"),),),
                                 ((("p", "copy"),), (), ()), ((), ()), (("p", "copy"), None)):
            self.wrong(thing, ("net",))
        nine = tuple((sign, "copy") for sign in "abcdefghi")
        self.wrong((nine, ()), ("net",))
        self.wrong((nine[:8], ()), None)
        lane = ("p", "x", "p", "a", (), None)
        self.wrong(((("p", "copy"),), (lane,) * 17), ("net",))
        self.wrong(((("p", "copy"),), (None,) * 17), ("net",))
        self.wrong(((("p", "copy"),), (lane,) * 16), ("in", 1))

    def test_instances(self):
        for thing in ANYTHING + (("p",), ("p", "copy", 1), ["p", "copy"], ("P", "copy"), ("", "copy"), ("abcdefghi", "copy"),
                                 ("p", "no"), ("p", None), ("p", ["copy"]), ("p", ("copy",)), (1, "copy"), (["p"], "copy"),
                                 ("p", "bad"), ("p", "s"), ("o", "copy"), ("p", "Copy")):
            self.wrong((((("o", "copy")), thing, None), (None,)), ("instance", 1))
        self.wrong(((("o", "copy"), ("abcdefgh", "copy"), ("p", "give"), ("q", "late")), ()), None)

    def test_clocks_that_are_no_words(self):
        long = ("MODULE m () OUT (x, ba, bb, bc)\nba = (BEATS ({}0))\nbb = (BEATS ({}0))\nbc = (BEATS ({}0))\n"
                "x = ((1 WHEN ba) WHEN bb)\nva = (bb AND (TRUE WHEN ba))\nvb = (bc AND ((TRUE WHEN ba) WHEN bb))")
        fine = book_of(long.format("1" * 58, "1" * 52, "1" * 46))
        self.assertIsNone(net_wrong(fine, ((("p", "m"),), ())))
        more = long.replace("OUT (x,", "OUT (y, x,") + "\ny = (x WHEN bc)"
        self.assertEqual(net_wrong(book_of(more.format("1" * 58, "1" * 52, "1" * 46)), ((("p", "m"),), ())), ("instance", 0))
        self.assertIsNone(net_wrong(book_of(more.format("1" * 5, "1" * 4, "1" * 3)), ((("p", "m"),), ())))
        # A clock of another flow than an in or out may be of any kind.
        self.assertIsNone(net_wrong(book_of("MODULE m (a) OUT (x)\nx = a\ny = (x < 3)\nz = (1 WHEN y)"), ((("p", "m"),), ())))
        self.assertEqual(net_wrong(book_of("MODULE m (a, c) OUT (x)\nx = (MERGE c a 1)"), ((("p", "m"),), ())), ("instance", 0))

    def lane(self, lane, told=("lane", 0)):
        instances = (("p", "copy"), ("q", "pair"), ("r", "give"), ("t", "told"))
        self.wrong((instances, (lane, None)), told if told else ("lane", 1))
        self.wrong((instances, (("t", "x", "t", "a", (), 1), lane)), ("lane", 1) if told else None)

    def test_lanes_by_form_and_ends(self):
        for thing in ANYTHING + (("p", "x", "q", "a", ()), ["p", "x", "q", "a", (), None], ("p", "x", "q", "a", (), None, 1)):
            self.lane(thing)
        for thing in ANYTHING + ("q", "P", "pp", ["p"]):
            self.lane((thing, "x", "q", "b", (), None), None if thing == "q" else ("lane", 0))
            self.lane(("p", "x", thing, "b", (), None), None if thing == "q" else ("lane", 0))
        for thing in ANYTHING + ("y", "b", "z", ["x"]):
            self.lane(("p", thing, "q", "b", (), None))
            self.lane(("p", "x", "q", thing, (), None), None if thing in ("a", "b") else ("lane", 0))
        for out in ("a", "b", "y"):
            self.lane(("p", out, "q", "a", (), None))
        self.lane(("q", "x", "q", "x", (), None))

    def test_first_worths_and_rooms(self):
        for first, room, right in (
            ((), 1, True), ((), 200, True), ((), 0, False), ((), 201, False), ((), True, False), ((), False, False), ((), "1", False),
            ((), -1, False), ((), (), False), ((), 10 ** 29, False), ((1, 2), 2, True), ((1, 2), 1, False), ((1, 2), 3, True),
            ((1, 2), None, True), ((0,) * 20, None, True), ((0,) * 20, 20, True), ((0,) * 20, 19, False), ((0,) * 21, None, False),
            ((0,) * 21, 21, False), ([1], None, False), ((49,), None, True), ((50,), None, False), ((-1,), None, False),
            (("1",), None, False), ((None,), None, False), (((),), None, False), (([],), None, False), (None, None, False),
            ((True, False), None, True), ((True, 1), None, False), ((0, False), None, False), ((10 ** 29,), None, False),
        ):
            self.lane(("p", "x", "q", "a", first, room), None if right else ("lane", 0))

    def test_kinds(self):
        instances = (("p", "copy"), ("q", "copy"), ("r", "give"), ("t", "told"), ("u", "pair"))
        number, truth = ("r", "n", "p", "a", (), None), ("t", "x", "p", "a", (), None)
        for lanes, told in (
            ([number, ("p", "x", "q", "a", (), None)], None), ([truth, ("p", "x", "q", "a", (), None)], None),
            ([number, ("p", "x", "t", "a", (), None)], ("lane", 1)), ([("p", "x", "t", "a", (), None), number], ("lane", 1)),
            ([truth, ("p", "x", "t", "a", (), None)], None), ([number, ("p", "x", "q", "a", (True,), None)], ("lane", 1)),
            ([("p", "x", "q", "a", (3,), None), ("q", "x", "t", "a", (), None)], ("lane", 1)),
            ([("p", "x", "q", "a", (False,), None), ("q", "x", "t", "a", (), None)], None),
            # By several lanes: the lot of p comes by q, r and u to be both.
            ([("p", "x", "q", "a", (), None), ("q", "x", "u", "a", (), None), ("u", "x", "t", "a", (), None), number], ("lane", 3)),
            ([("p", "x", "q", "a", (), None), ("q", "x", "u", "a", (), None), ("t", "x", "p", "a", (), None),
              ("r", "n", "u", "b", (), None)], ("lane", 3)),
            ([("u", "y", "p", "a", (), None), ("p", "x", "u", "b", (), None)], None),
            ([("u", "y", "p", "a", (), None), ("r", "x", "q", "a", (), None), ("q", "x", "p", "a", (), None)], ("lane", 2)),
            # Each instance has lots of its own.
            ([("r", "n", "p", "a", (), None), ("t", "x", "q", "a", (), None)], None),
            ([("r", "b", "p", "a", (5,), None)], ("lane", 0)), ([("r", "x", "t", "a", (), None)], ("lane", 0)),
        ):
            self.wrong((instances, tuple(lanes)), told)

    def test_two_lanes_to_one_in(self):
        instances = (("p", "copy"), ("q", "pair"))
        one, other, third = (("p", "x", "q", x, (), None) for x in "aab")
        self.wrong((instances, (one, third)), None)
        self.wrong((instances, (one, third, other)), ("in", 2))
        self.wrong((instances, (one, other, third, third)), ("in", 1))
        # Of lanes all are looked at first.
        self.wrong((instances, (one, other, ("p", "x", "q", "b", (), 0))), ("lane", 2))
        # One out to several lanes, and to none.
        self.wrong(((("p", "copy"), ("q", "copy"), ("r", "copy")), (("p", "x", "q", "a", (), 1), ("p", "x", "r", "a", (1,), 1))), None)


class Nets(unittest.TestCase):
    def test_shape_doors_and_len(self):
        net = Net(books(), ((("q", "pair"), ("p", "copy"), ("r", "give")), (("p", "x", "q", "a", (1, 2), 3),)))
        self.assertEqual(net.shape(), ((("q", "pair"), ("p", "copy"), ("r", "give")), (("p", "x", "q", "a", (1, 2), 3),)))
        self.assertEqual(net.doors(), [("q", "b"), ("p", "a")])
        self.assertEqual(len(net), 1)
        net.doors().clear()
        self.assertEqual(net.doors(), [("q", "b"), ("p", "a")])
        net = Net(net=((("q", "pair"),), ()), book=books())
        self.assertEqual((len(net), net.doors()), (0, [("q", "a"), ("q", "b")]))

    def test_equal(self):
        book = books()
        one = Net(book, chain((1, 0), 3))
        self.assertEqual(one, Net(books(), chain((1, 0), 3)))
        self.assertEqual(one, Net(Book(books().modules()[::-1], measure=50), chain((1, 0), 3)))
        for other in (Net(book, chain((True, False), 3)), Net(book, chain((1, 0), None)), Net(book, chain((0, 1), 3)),
                      Net(Book(book.modules(), measure=51), chain((1, 0), 3)), Net(Book(book.modules()[:-1], measure=50), chain((1, 0), 3)),
                      Net(book, (chain()[0][::-1], chain((1, 0), 3)[1])), chain((1, 0), 3), None, book):
            self.assertFalse(one == other)
            self.assertTrue(one != other)
        self.assertNotEqual(Net(book, chain((True,), 3)), Net(book, chain((1,), 3)))
        self.assertEqual(Net(book, chain((True,), 3)), Net(book, chain((True,), 3)))

    def test_what_is_handed_in_may_be_changed(self):
        modules = books().modules()
        book = Book(modules, measure=50)
        net = Net(book, chain((), 3))
        modules[0][3].clear()
        book.modules()[0][3].clear()
        self.assertEqual(lanes_told(net, {"p": SIGN, "q": ("0", "1")}), [("least", 2, 1)])


class Lanes(unittest.TestCase):
    def told(self, net, drive):
        net = Net(books(), net)
        told = lanes_told(net, drive)
        for k, line in enumerate(told):
            self.assertIs(lane_judged(net, drive, k, line), True)
        return told

    def test_by_hand(self):
        for net, p, q, told in (
            # A put can be taken at a later beat alone.
            (chain(), SIGN, SIGN, ("dry", 0)), (chain((7,)), SIGN, SIGN, ("least", 2, 0)), (chain((7,), 1), SIGN, SIGN, ("over", 0)),
            (chain((7,), 2), SIGN, SIGN, ("least", 2, 0)), (chain(), SIGN, ("0", "1"), ("least", 2, 1)),
            (chain((), 1), SIGN, ("0", "1"), ("over", 1)), (chain(), ("", "10"), ("", "01"), ("least", 1, 0)),
            (chain((), 200), ("", "10"), ("", "01"), ("least", 1, 0)), (chain((1, 2, 3)), ("", "0"), ("111", "0"), ("least", 3, None)),
            (chain((1, 2, 3)), ("", "0"), ("1111", "0"), ("dry", 3)), (chain((1, 2, 3)), ("0001", "0"), ("1111", "0"), ("dry", 3)),
            (chain((1, 2, 3)), ("001", "0"), ("1111", "0"), ("least", 3, None)), (chain(), ("", "0"), ("", "0"), ("least", 1, None)),
            (chain((5,)), ("", "0"), ("", "0"), ("least", 1, None)), (chain((5, 5)), ("01", "0"), ("1", "0"), ("least", 2, 1)),
            (chain((), 9), SIGN, ("00", "1"), ("least", 3, 2)), (chain((), 2), SIGN, ("", "0"), ("over", 2)),
            (chain((1, 2), 2), SIGN, ("1", "0"), ("over", 0)), (chain((1, 2), 3), SIGN, ("11", "0"), ("over", 3)),
        ):
            self.assertEqual(self.told(net, {"p": p, "q": q}), [told], (net, p, q))

    def test_dry_ahead_of_over_and_over_ahead_of_dry(self):
        for p, q, told in ((("1110", "1"), ("0001110", "1"), ("over", 2)), (("11", "0"), ("00111", "0"), ("dry", 4)),
                           (("1100011", "1"), ("00111", "0"), ("dry", 4)), (("110111", "1"), ("00", "01"), ("over", 3))):
            self.assertEqual(self.told(chain((), 2), {"p": p, "q": q}), [told], p)

    def test_grows(self):
        net = Net(books(), chain((3,)))
        drive = {"p": ("0", "110"), "q": ("", "10")}
        word, one, other = lanes_told(net, drive)[0]
        self.assertEqual(word, "grows")
        counts = SlowNet(books(), chain((3,))).counts(drive, 0, 400)
        for one in range(40):
            for other in range(40):
                alike = [line[1:] for line in counts[one:one + 300]] == [line[1:] for line in counts[other:other + 300]]
                right = one < other and alike and counts[one][0] < counts[other][0]
                self.assertIs(lane_judged(net, drive, 0, ("grows", one, other)), right, (one, other))
        for thing in (("grows", 1, 10 ** 29 + 3), ("grows", 10 ** 20, 10 ** 20 + 6), ("grows", 1, 7)):
            self.assertIs(lane_judged(net, drive, 0, thing), (thing[2] - thing[1]) % 6 == 0)
        for thing in (["grows", 1, 7], ("grows", 1), ("grows", 1, 7, 13), ("grows", True, 7), ("grows", 7, 1), ("grows", -5, 7),
                      ("grows", 1, True), ("grows", "1", "7"), ("grows", 1, None), ("grow", 1, 7), ("least", 1, 7), ("dry", 1), (1, 1, 7)):
            self.assertIs(lane_judged(net, drive, 0, thing), False, thing)
        # A lane with a room runs over in the end; one that runs dry doesn't grow.
        self.assertEqual(lanes_told(Net(books(), chain((3,), 200)), drive)[0][0], "over")
        self.assertEqual(lanes_told(Net(books(), chain()), drive), [("dry", 0)])
        self.assertFalse(lane_judged(Net(books(), chain()), drive, 0, ("grows", 1, 7)))
        self.assertFalse(lane_judged(Net(books(), chain((3,), 200)), drive, 0, ("grows", 1, 7)))

    def test_steps_not_beats_tell_when_an_out_is_there(self):
        give = chain((), None, giver="give")
        self.assertEqual(self.told(give, {"p": SIGN, "q": ("0", "10")}), [("least", 1, 0)])
        self.assertEqual(self.told(give, {"p": SIGN, "q": SIGN}), [("dry", 0)])
        self.assertEqual(self.told(give, {"p": ("", "10"), "q": ("0", "1000")}), [("least", 1, 0)])
        self.assertEqual(self.told(give, {"p": ("", "10"), "q": ("00", "10")}), [("dry", 4)])
        self.assertEqual(self.told(chain(giver="give", out="n"), {"p": SIGN, "q": ("0", "10")})[0][0], "grows")

    def test_a_lane_of_one_instance_to_itself(self):
        own = ((("p", "copy"),), (("p", "x", "p", "a", (1,), None),))
        self.assertEqual(self.told(own, {"p": ("01", "110")}), [("least", 2, 1)])
        self.assertEqual(self.told(((("p", "copy"),), (("p", "x", "p", "a", (), 1),)), {"p": ("01", "110")}), [("dry", 1)])
        self.assertEqual(self.told(((("p", "copy"),), (("p", "x", "p", "a", (1,), 1),)), {"p": ("01", "110")}), [("over", 1)])

    def test_each_lane_by_itself(self):
        net = ((("p", "give"), ("q", "copy"), ("r", "pair")), (
            ("p", "x", "q", "a", (), 1), ("q", "x", "r", "a", (), 2), ("p", "n", "r", "b", (1, 2), None)))
        drive = {"p": ("1", "10"), "q": ("01", "01"), "r": ("0", "0110")}
        told = self.told(net, drive)
        for k in range(3):
            self.assertEqual(lanes_told(Net(books(), (net[0], net[1][k:k + 1])), drive), told[k:k + 1])

    def first(self, lies, p, q, stop):
        """The first beat at which stop tells so of a plain count: of how many lie, and whether one is put and taken."""
        beat = 0
        while True:
            put, taken = p[beat % len(p)] == "1", q[beat % len(q)] == "1"
            if stop(lies, put, taken):
                return beat
            lies += put - taken
            beat += 1

    def test_over_and_dry_far_off(self):
        p, q = "1" * 149 + "0", "1" * 107 + "01"
        drive = {"p": ("", p), "q": ("", q)}
        self.assertEqual(self.told(chain((3,) * 20), drive), [("grows", 0, 16350)])
        for room in (20, 21, 40, 61, 99, 200):
            beat = self.first(20, p, q, lambda lies, put, taken: put and lies == room)
            self.assertEqual(self.told(chain((3,) * 20, room), drive), [("over", beat)])
            self.assertFalse(lane_judged(Net(books(), chain((3,) * 20, room)), drive, 0, ("over", beat + 16350)))
        for many in (1, 7, 20):
            beat = self.first(many, q, p, lambda lies, put, taken: taken and lies == 0)
            self.assertEqual(self.told(chain((3,) * many), {"p": ("", q), "q": ("", p)}), [("dry", beat)])

    def test_beats_that_are_far_off(self):
        # In 19,900 beats one worth more is put than taken, or taken than put.
        p, q = ("1" + "0" * 99) * 199, ("1" + "0" * 99) * 198 + "0" * 100
        beat = self.first(1, p, q, lambda lies, put, taken: put and lies == 200)
        self.assertGreater(beat, 3900000)
        self.assertEqual(self.told(chain((1,), 200), {"p": ("", p), "q": ("", q)}), [("over", beat)])
        self.assertEqual(self.told(chain((1,) * 20, 200), {"p": ("", q), "q": ("", p)}), [("dry", 20 * 19900)])

    def test_by_a_plain_count(self):
        seen = {}
        for seed in range(400):
            maker = Knotter(seed, signs=2 + seed % 4)
            book = maker.book(1 + seed % 3)
            tuple_of = maker.net(book, 1 + seed % 4)
            if net_wrong(book, tuple_of) is not None:
                continue
            net, slow = Net(book, tuple_of), SlowNet(book, tuple_of)
            drive = maker.drive(tuple_of, ones=seed % 2)
            told = lanes_told(net, drive)
            for k, line in enumerate(told):
                expected = slow.lane_told(drive, k, 1500)
                self.assertEqual(line if line[0] != "grows" else ("grows",), expected, (seed, k))
                seen[line[0]] = seen.get(line[0], 0) + 1
                self.assertTrue(lane_judged(net, drive, k, line))
                for other in told + [("least", 1, None), ("least", 1, 0), ("dry", 0), ("over", 1)]:
                    if other[0] != "grows":
                        self.assertIs(lane_judged(net, drive, k, other), other == line)
        self.assertGreater(min(seen.get(word, 0) for word in ("dry", "over", "grows", "least")), 5)

    def test_told_soon(self):
        instances = tuple((sign, "give") for sign in "abcd") + tuple((sign, "pair") for sign in "efgh")
        lanes = tuple((giver, "n", taker, x, (1,) * 20, None) for giver, taker in zip("abcd", "efgh") for x in "ab")
        book = books()
        net = Net(book, (instances, lanes))
        drive = {sign: ("1" * 19000, "1" * 9999 + "0") for sign in "abcd"}
        drive.update({sign: ("1" * 19000, "1" * 9998 + "00") for sign in "efgh"})
        begin = time.monotonic()
        for k, line in enumerate(lanes_told(net, drive)):
            self.assertEqual(line[0], "grows")
            self.assertTrue(lane_judged(net, drive, k, ("grows", 10 ** 29, 10 ** 29 + 10000)))
        self.assertLess(time.monotonic() - begin, 10)


class Judged(unittest.TestCase):
    def test_anything(self):
        net = Net(books(), ((("p", "copy"), ("q", "pair")), (("p", "x", "q", "a", (), 1), ("p", "x", "q", "b", (1,), None))))
        drive = {"p": ("10", "0"), "q": ("01", "0")}
        self.assertEqual(lanes_told(net, drive), [("least", 1, 0), ("least", 2, 0)])
        for k in range(2):
            for thing in ANYTHING + (["least", 1, 0], ("least", 1), ("least", 1, 0, 0), ("least", True, 0), ("least", 1, False),
                                     ("least", 1, None), ("dry", 0), ("over", 0), ("grows", 0, 1)):
                self.assertIs(lane_judged(net, drive, k, thing), False)
        self.assertIs(lane_judged(net=net, drive=drive, k=1, thing=("least", 2, 0)), True)
        dry = Net(books(), chain())
        self.assertIs(lane_judged(dry, {"p": SIGN, "q": SIGN}, 0, ("dry", 0)), True)
        self.assertIs(lane_judged(dry, {"p": SIGN, "q": SIGN}, 0, ("dry", False)), False)

    def test_no_drive(self):
        net = Net(books(), chain())
        for drive in ({}, {"p": SIGN}, {"p": SIGN, "q": SIGN, "r": SIGN}, {"p": SIGN, "q": ("", "")}, {"p": SIGN, "q": ["", "1"]},
                      {"p": SIGN, "q": "1"}, {"p": SIGN, "q": None}, {"p": SIGN, "Q": SIGN}, {"p": SIGN, 1: SIGN},
                      {"p": ("", "1" * 20001), "q": SIGN}, {"p": SIGN, "q": SIGN, None: SIGN}, {"p": SIGN, "q": (1, 1)},
                      {"p": SIGN, ("q",): SIGN}, {"x": SIGN, "a": SIGN}):
            with self.assertRaises(NoDrive):
                lanes_told(net, drive)
            for k in (0, -1, 7):
                with self.assertRaises(NoDrive):
                    lane_judged(net, drive, k, None)

    def test_no_lane(self):
        net = Net(books(), chain())
        long = {"p": ("", "1" * 20000), "q": ("", "1" * 19998 + "01")}
        for k in (-1, 1, 10 ** 29, -10 ** 29):
            for drive in ({"p": SIGN, "q": SIGN}, long):
                with self.assertRaises(NoLane):
                    lane_judged(net, drive, k, None)

    def test_too_long(self):
        # Put on, the lane's word has an again of two of the drive's agains, where these have an odd number of 1s.
        net = ((("p", "give"), ("q", "copy"), ("r", "copy")), (("p", "x", "q", "a", (), None), ("q", "x", "r", "a", (), None)))
        give = Net(books(), net)
        for p, fine in (("1" * 10001 + "0", False), ("1" * 9998 + "000", True), ("1" * 9999, True), ("1" * 10000 + "0", True),
                        ("1" * 9999 + "00", False), ("1" * 9999 + "0", True)):
            drive = {"p": ("", p), "q": ("", "0"), "r": SIGN}
            if fine:
                self.assertEqual(lanes_told(give, drive)[1], ("dry", 0))
                continue
            with self.assertRaises(TooLong):
                lanes_told(give, drive)
            with self.assertRaises(TooLong):
                lane_judged(give, drive, 0, None)
            # Of one lane its own words alone count.
            self.assertTrue(lane_judged(give, drive, 1, ("dry", 0)))
        copy = Net(books(), chain())
        for p, q, fine in ((200, 100, True), (199, 100, True), (200, 101, False), (20000, 20000, True), (20000, 3, False),
                           (20000, 1, True), (141, 142, False), (141, 141, True), (140, 142, True)):
            drive = {"p": ("0", "1" * (p - 1) + "0"), "q": ("0", "1" * (q - 1) + "0")}
            if fine:
                self.assertIn(lanes_told(copy, drive)[0][0], ("dry", "grows"))
            else:
                with self.assertRaises(TooLong):
                    lanes_told(copy, drive)
                with self.assertRaises(TooLong):
                    lane_judged(copy, drive, 0, None)
        # Words on the drive's are as on tells them, least ones: agains of many rounds are of one.
        drive = {"p": ("", "10" * 9999), "q": ("0", "01" * 9998)}
        self.assertEqual(lanes_told(copy, drive), [("least", 2, 2)])

    def test_lengths_of_a_drive_as_handed_in(self):
        give = Net(books(), chain((), None, giver="give"))
        # Of an odd number of 1s two agains are too many signs, though the least word has one sign.
        drive = {"p": ("", "1" * 15001), "q": SIGN}
        with self.assertRaises(TooLong):
            lanes_told(give, drive)
        self.assertEqual(lanes_told(give, {"p": ("", "1" * 15000), "q": SIGN}), [("dry", 0)])


if __name__ == "__main__":
    unittest.main()
