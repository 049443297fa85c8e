"""Drives found for nets, papers for them, and waits (38 to 40)."""

import time
import unittest
from random import Random

from clockloom.driving import earliest, earliest_judged, reasons, waits
from clockloom.errors import NoDrive, NoRoom, NoTitle, NoWait, TooLong
from clockloom.nets import Net, lanes_told, net_wrong
from clockloom.words import least_word, ones
from tests.making import ANYTHING, book_of
from tests.netmaking import Knotter
from tests.slownets import SlowNet, has_one

COPY = "MODULE copy (a) OUT (x)\nx = a"
PAIR = "MODULE pair (a, b) OUT (x)\nx = (a + b)"
GIVE = "MODULE give () OUT (x, b)\nx = (n WHEN b)\nn = (0 THEN (n + 1))\nb = (BEATS (10))"
THRICE = "MODULE thrice (a) OUT (x, b)\nx = (a WHEN b)\nb = (BEATS (100))"
ONCE = "MODULE once () OUT (x, b)\nx = (1 WHEN b)\nb = (BEATS 11(0))"
SIGN = ("", "1")


def books():
    return book_of(COPY, PAIR, GIVE, THRICE, ONCE)


def net_of(instances, *lanes):
    """A net of instances by texts "title name", and lanes by texts "giver out taker in" with first worths and a room."""
    made = tuple(tuple(text.split()) for text in instances.split(", "))
    return Net(books(), (made, tuple((*text.split(), first, room) for text, first, room in lanes)))


def two(first=(), room=1):
    return net_of("p copy, q copy", ("p x q a", first, room))


# A ring of two without worths: both wait for the other one.
STUCK = ("p copy, q copy", ("p x q a", (), 2), ("q x p a", (), 2))


def slow_of(net):
    return SlowNet(net.book, net.shape())


class Earliest(unittest.TestCase):
    def test_by_hand(self):
        for net, told in (
            (net_of("p copy, q give"), {"p": SIGN, "q": SIGN}),
            (two(), {"p": ("", "10"), "q": ("", "01")}), (two((), 2), {"p": SIGN, "q": ("0", "1")}),
            (two((5,), 1), {"p": ("", "01"), "q": ("", "10")}), (two((5, 5), 3), {"p": SIGN, "q": SIGN}),
            (net_of("p give, q copy", ("p x q a", (), 1)), {"p": SIGN, "q": ("", "01")}),
            (net_of("p give, q thrice", ("p x q a", (), 5)), {"p": SIGN, "q": ("", "01")}),
            (net_of("p once, q copy", ("p x q a", (), 1)), {"p": ("10", "1"), "q": ("0101", "0")}),
            (net_of(*STUCK), {"p": ("", "0"), "q": ("", "0")}),
            (net_of("p copy", ("p x p a", (1,), 1)), {"p": ("", "0")}), (net_of("p copy", ("p x p a", (1,), 2)), {"p": SIGN}),
            (net_of("p copy", ("p x p a", (), 2)), {"p": ("", "0")}),
            (net_of("p copy, q copy, r copy", ("p x q a", (1,), 1), ("q x r a", (), 1), ("r x p a", (), 1)),
             {"p": ("", "001"), "q": ("", "100"), "r": ("", "010")}),
        ):
            self.assertEqual(earliest(net), told)
            self.assertEqual(list(earliest(net)), [title for title, _ in net.shape()[0]])
            self.assertIsNone(earliest_judged(net, told, reasons(net)))

    def nets(self, many, *, signs=2):
        """Nets made by seeds, and their slow ones."""
        for seed in range(many):
            maker = Knotter(seed, signs=signs + seed % 2)
            book = maker.book(1 + seed % 3)
            made = maker.net(book, 1 + seed % 4, rooms=True, full=(0.5, 0.8, 1)[seed % 3])
            if net_wrong(book, made) is None:
                yield seed, maker, Net(book, made), SlowNet(book, made)

    def test_beat_by_beat(self):
        resting = 0
        for seed, _, net, slow in self.nets(250):
            one, other, going, lies = slow.earliest(300)
            told = earliest(net)
            for title, _ in slow.instances:
                text = "".join("1" if title in some else "0" for some in going[:other])
                self.assertEqual(told[title], least_word((text[:one], text[one:])))
                resting += "1" not in text[one:]
            self.assertEqual(reasons(net)[:2], (one, other))
            self.assertTrue(all(line[0] == "least" for line in lanes_told(net, told)))
        self.assertGreater(resting, 50)

    def test_orderly_and_earlier_than_orderly_drives(self):
        for seed, _, net, slow in self.nets(80):
            told = earliest(net)
            chance = Random(seed)
            # A drive by which some that could step wait: it steps no more often, behind any number of beats.
            lies, steps, beside = [len(lane[4]) for lane in slow.lanes], {x: 0 for x, _ in slow.instances}, []
            for beat in range(40):
                some = [x for x in steps if chance.random() < 0.7 and not slow.needs(x, steps[x], lies)]
                for k in range(len(lies)):
                    lies[k] += sum(slow.puts(k, x, steps[x]) - slow.takes(k, x, steps[x]) for x in some)
                for x in some:
                    steps[x] += 1
                for x in steps:
                    self.assertGreaterEqual(ones(told[x], beat + 1), steps[x])

    def test_reasons_of_many(self):
        seen = {}
        for seed, maker, net, slow in self.nets(120):
            paper = reasons(net)
            drive = earliest(net)
            self.assertIsNone(earliest_judged(net, drive, paper))
            self.assertIsNone(slow.judged(drive, paper))
            self.assertEqual(repr(paper), repr(reasons(net)))
            for _, _, reason in paper[2]:
                seen[reason[0]] = True
            chance = Random(seed)
            for _ in range(20):
                changed, beside = self.changed(chance, maker, drive, paper, len(net))
                if 0 <= beside[0] < beside[1] <= 5000:
                    told = earliest_judged(net, changed, beside)
                    self.assertEqual(told, slow.judged(changed, beside), (seed, changed, beside))
                    seen[told and told[0]] = True
        self.assertLessEqual({"begin", "own", "worth", "room", "empty", "full", None, "orderly", "again", "line"}, set(seen))

    def changed(self, chance, maker, drive, paper, many):
        """A drive and a paper, one of which is changed somewhat."""
        one, other, lines = paper
        drive, lines = dict(drive), list(lines)
        turn = chance.randrange(6)
        if turn == 0 and lines:
            del lines[chance.randrange(len(lines))]
        elif turn == 1 and lines:
            lines.insert(chance.randrange(len(lines) + 1), chance.choice(lines))
        elif turn == 2:
            one, other = one + chance.choice((-1, 0, 1)), other + chance.choice((-1, 1, 2, other - one))
        elif turn == 3 and lines and many:
            at = chance.randrange(len(lines))
            k = chance.randrange(many)
            words = [("begin",), ("own",), ("worth", k), ("room", k)] if lines[at][0] is not None else [("empty", k), ("full", k)]
            lines[at] = (*lines[at][:2], chance.choice(words))
        elif turn == 4:
            title = chance.choice(list(drive))
            drive[title] = (drive[title][0] + chance.choice("01"), drive[title][1])
        else:
            drive[chance.choice(list(drive))] = maker.word(ones=False)
        return drive, (one, other, lines)

    def test_too_long(self):
        # Agains of 59 and 60 and 53 signs come together behind too many steps.
        texts = [f"MODULE m{sign} (a) OUT (x, b)\nb = (BEATS ({'1' * (many - 1)}0))\nx = (a WHEN b)"
                 for sign, many in zip("abc", (59, 60, 53))]
        book = book_of(*texts)
        net = Net(book, ((("p", "ma"), ("q", "mb"), ("r", "mc")), ()))
        for call in (earliest, reasons, lambda net: waits(net, "p"), lambda net: waits(net, "zz")):
            with self.assertRaises(TooLong):
                call(net)
        net = Net(book, ((("p", "ma"), ("q", "mb")), ()))
        self.assertEqual(earliest(net), {"p": SIGN, "q": SIGN})
        self.assertEqual(reasons(net)[:2], (0, 59 * 60))
        # 5,000 beats are not too many: a head of 40 signs, and agains of 31, 32 and 5 that come together behind 4,960.
        for head in (40, 41):
            texts = [f"MODULE ma () OUT (x, b)\nb = (BEATS {'1' * head}({'1' * 30}0))\nx = (1 WHEN b)",
                     f"MODULE mb () OUT (x, y, b, c)\nb = (BEATS ({'1' * 31}0))\nc = (BEATS (10000))\nx = (1 WHEN b)\ny = (1 WHEN c)"]
            net = Net(book_of(*texts), ((("p", "ma"), ("q", "mb")), ()))
            if head == 40:
                self.assertEqual(reasons(net)[:2], (40, 5000))
                self.assertIsNone(earliest_judged(net, earliest(net), reasons(net)))
            else:
                with self.assertRaises(TooLong):
                    earliest(net)

    def test_told_soon(self):
        texts = [f"MODULE m{sign} (a) OUT (x, b)\nb = (BEATS ({'1' * (many - 1)}0))\nx = (a WHEN b)"
                 for sign, many in zip("ab", (59, 60))]
        instances = tuple((sign, "ma") for sign in "abcdefgh")
        lanes = tuple((one, "x", other, "a", (1,) * 3, 4) for one, other in zip("abcdefg", "bcdefgh"))
        begin = time.monotonic()
        net = Net(book_of(*texts), (instances[:2], lanes[:1]))
        drive, paper = earliest(net), reasons(net)
        self.assertGreater(paper[1], 3000)
        self.assertIsNone(earliest_judged(net, drive, paper))
        for title in drive:
            with self.assertRaises(NoWait):
                waits(net, title)
        with self.assertRaises(TooLong):
            earliest(Net(book_of(*texts), (instances, lanes)))
        self.assertLess(time.monotonic() - begin, 10)


class Reasons(unittest.TestCase):
    def test_by_hand(self):
        for _ in range(2):
            self.assertEqual(reasons(two()), (0, 2, [(0, "p", ("begin",)), (1, "q", ("worth", 0)), (2, "p", ("room", 0))]))
        one, other, lines = reasons(two((), 2))
        self.assertEqual((one, other), (1, 2))
        self.assertEqual(lines, [(0, "p", ("begin",)), (1, "p", ("own",)), (1, "q", ("worth", 0)), (2, "p", ("own",)), (2, "q", ("own",))])
        self.assertEqual(reasons(net_of(*STUCK)), (0, 1, [(None, "p", ("empty", 1)), (None, "q", ("empty", 0))]))
        self.assertEqual(reasons(net_of("p copy", ("p x p a", (1,), 1))), (0, 1, [(None, "p", ("full", 0))]))
        self.assertEqual(reasons(net_of("p once, q copy", ("p x q a", (), 1)))[2][-1], (None, "q", ("empty", 0)))

    def test_new_lists(self):
        net = two()
        reasons(net)[2].clear()
        earliest(net).clear()
        self.assertEqual(len(reasons(net)[2]), 3)
        self.assertEqual(len(earliest(net)), 2)
        self.assertEqual(reasons(net=net), reasons(net))
        told = waits(net_of(*STUCK), "p")
        told.clear()


class Judged(unittest.TestCase):
    def judged(self, paper, drive=None, net=None):
        net = net or two()
        return earliest_judged(net, drive or {"p": ("", "10"), "q": ("", "01")}, paper)

    def lines(self, *lines):
        """What is told of a paper of two beats, 0 and 2, with these lines."""
        return self.judged((0, 2, list(lines)))

    def test_papers_by_form(self):
        fine = [(0, "p", ("begin",)), (1, "q", ("worth", 0)), (2, "p", ("room", 0))]
        self.assertIsNone(self.judged((0, 2, fine)))
        for thing in ANYTHING + ([0, 2, fine], (0, 2), (0, 2, fine, 1), (0, 2, tuple(fine)), (0, 2, None), (False, 2, fine),
                                 (0, True, fine), (2, 2, fine), (2, 0, fine), (-1, 2, fine), (0, 5001, fine), (0, 10 ** 29, fine),
                                 ("0", 2, fine), (0, None, fine), (None, 2, fine)):
            self.assertEqual(self.judged(thing), ("paper",), thing)
        self.assertNotEqual(self.judged((0, 5000, fine)), ("paper",))
        for line in ANYTHING + ([0, "p", ("begin",)], (0, "p"), (0, "p", ("begin",), 1), (True, "p", ("begin",)), ("0", "p", ("begin",)),
                                (0, None, ("begin",)), (0, 1, ("begin",)), (0, "p", "begin"), (0, "p", ["begin"]), (0, "p", ()),
                                (0, "p", ("begin", 0)), (0, "p", ("own", 0)), (0, "p", ("worth",)), (0, "p", ("room",)),
                                (0, "p", ("worth", 1)), (0, "p", ("worth", -1)), (0, "p", ("worth", False)), (0, "p", ("worth", "0")),
                                (0, "p", ("worth", None)), (0, "p", ("worth", 0, 0)), (0, "p", ("empty", 0)), (0, "p", ("full", 0)),
                                (None, "p", ("worth", 0)), (None, "p", ("room", 0)), (None, "p", ("begin",)), (None, "p", ("own",)),
                                (None, "p", ("empty",)), (None, "p", ("empty", 1)), (None, "p", ("empty", True)), (None, 0, ("empty", 0)),
                                (0, "p", ["worth", 0]), (None, "p", ["empty", 0]), (0, "p", (["begin"],)), (0, "p", (None, 0)), (None, "p", ([], 0)), (0, "p", ("other", 0))):
            self.assertEqual(self.judged((0, 2, fine + [line])), ("paper",), line)
            self.assertEqual(self.judged((0, 2, [line] + fine)), ("paper",), line)
        for line in ((-1, "p", ("begin",)), (10 ** 29, "zz", ("own",)), (7, "", ("worth", 0)), (None, "zz", ("empty", 0)),
                     (None, "p", ("full", 0))):
            self.assertEqual(self.judged((0, 2, fine + [line])), ("line", 3), line)

    def test_orderly(self):
        for drive, told in (
            ({"p": ("", "10"), "q": ("", "1")}, ("orderly", 0, 0)), ({"p": ("", "1"), "q": ("", "01")}, ("orderly", 1, 0)),
            ({"p": ("", "1"), "q": ("0", "1")}, ("orderly", 1, 0)), ({"p": ("", "0"), "q": ("0000", "1")}, ("orderly", 4, 0)),
        ):
            self.assertEqual(self.judged((0, 9, []), drive), told)
        # At the beats ahead of the second one alone.
        self.assertEqual(self.judged((0, 4, []), {"p": ("", "0"), "q": ("0000", "1")}), ("again",))
        net = net_of("p pair, q copy, r copy", ("q x p a", (), 1), ("r x p b", (1,), 1), ("p x r a", (), 1))
        for drive, told in (({"p": ("", "1"), "q": ("", "1"), "r": ("", "1")}, ("orderly", 0, 0)),
                            ({"p": ("", "0"), "q": ("", "0"), "r": ("", "1")}, ("orderly", 0, 1)),
                            ({"p": ("01", "0"), "q": ("1", "0"), "r": ("001", "1")}, ("orderly", 3, 1))):
            self.assertEqual(self.judged((0, 4, []), drive, net), told)

    def test_again(self):
        fine = reasons(two())[2]
        drive = {"p": ("", "10"), "q": ("", "01")}
        self.assertEqual(self.judged((0, 1, fine)), ("again",))
        self.assertEqual(self.judged((0, 3, fine)), ("again",))
        # The standing is the same, but words don't go on alike.
        self.assertEqual(self.judged((0, 2, fine), {"p": ("10", "0"), "q": ("01", "0")}), ("again",))
        self.assertEqual(self.judged((0, 2, fine), {"p": ("101010", "10"), "q": ("0101", "01")}), None)
        self.assertEqual(self.judged((0, 2, fine), {"p": ("", "101010"), "q": ("", "01")}), None)
        # As many lie there, but outs' words, also those at no lane, don't go on alike.
        net = net_of("p thrice, q copy")
        drive = {"p": SIGN, "q": SIGN}
        self.assertEqual(earliest_judged(net, drive, (0, 1, [])), ("again",))
        self.assertEqual(earliest_judged(net, drive, (0, 3, [])), ("line", 0))
        self.assertEqual(earliest_judged(net, drive, (0, 4, [])), ("again",))
        self.assertEqual(earliest_judged(net, drive, (2, 5, [])), ("line", 0))

    def test_lines(self):
        fine = [(0, "p", ("begin",)), (1, "q", ("worth", 0)), (2, "p", ("room", 0))]
        self.assertIsNone(self.lines(*fine))
        for at in range(3):
            self.assertEqual(self.lines(*fine[:at]), ("line", at))
            self.assertEqual(self.lines(*fine[:at], fine[0], *fine[at:])[1], max(at, 1))
            for beat, title, reason in ((7, "p", ("own",)), (None, "p", ("empty", 0)), (at, "r", ("begin",)), (at, "p", ("own",)),
                                        (at, "q", ("own",)), (at, "q", ("room", 0)), (at, "p", ("worth", 0))):
                self.assertEqual(self.lines(*fine[:at], (beat, title, reason), *fine[at + 1:]), ("line", at))
        self.assertEqual(self.lines(*fine, fine[2]), ("line", 3))
        self.assertEqual(self.lines(*fine[:2], (3, "q", ("worth", 0))), ("line", 2))

    def test_own_at_the_first_beat(self):
        net = net_of("p copy")
        self.assertIsNone(earliest_judged(net, {"p": SIGN}, (0, 1, [(0, "p", ("begin",)), (1, "p", ("own",))])))
        self.assertEqual(earliest_judged(net, {"p": SIGN}, (0, 1, [(0, "p", ("own",)), (1, "p", ("own",))])), ("line", 0))
        self.assertEqual(earliest_judged(net, {"p": SIGN}, (0, 1, [(0, "p", ("begin",)), (1, "p", ("begin",))])), ("line", 1))
        # A drive that might go earlier has no reason.
        self.assertEqual(earliest_judged(net, {"p": ("0", "1")}, (1, 2, [(1, "p", ("own",)), (2, "p", ("own",))])), ("line", 0))
        self.assertEqual(earliest_judged(net, {"p": ("0", "1")}, (1, 2, [(1, "p", ("begin",)), (2, "p", ("own",))])), ("line", 0))
        self.assertEqual(earliest_judged(net, {"p": ("", "0")}, (0, 1, [])), ("line", 0))

    def test_beats_that_are_not_the_least(self):
        net = two()
        fine = [(0, "p", ("begin",)), (1, "q", ("worth", 0))]
        for other in (4, 6, 10):
            lines = fine[:1] + [(at, "pq"[at % 2], (("room", 0), ("worth", 0))[at % 2]) for at in range(1, other + 1)]
            for one in range(0, other, 2):
                self.assertIsNone(earliest_judged(net, earliest(net), (one, other, lines)))
            self.assertEqual(earliest_judged(net, earliest(net), (1, other, lines)), ("again",))

    def test_several_reasons_are_right(self):
        # p steps at each beat; at the fourth one the lane was full, and was taken from at the beat ahead.
        net = net_of("p give, q copy", ("p x q a", (), 1))
        self.assertEqual(earliest(net), {"p": SIGN, "q": ("", "01")})
        lines = reasons(net)[2]
        at = lines.index((2, "p", ("own",)))
        self.assertIsNone(earliest_judged(net, earliest(net), (0, 2, lines[:at] + [(2, "p", ("room", 0))] + lines[at + 1:])))
        self.assertEqual(earliest_judged(net, earliest(net), (0, 2, lines[:1] + [(1, "p", ("room", 0))] + lines[2:])), ("line", 1))

    def test_those_that_step_no_more(self):
        net = net_of("p pair, q copy, r give", ("q x p a", (), 1), ("p x q a", (), 1), ("r x p b", (), 1))
        paper = reasons(net)
        self.assertEqual(paper[2][-3:-1], [(None, "p", ("empty", 0)), (None, "q", ("empty", 1))])
        self.assertEqual(paper[2][-1], (None, "r", ("full", 2)))
        lines = paper[2][:-3]
        for some, told in ((paper[2][-3:], None), (paper[2][-3:-1], 2), (paper[2][-2:], 0), (paper[2][-3:] + paper[2][-1:], 3),
                           ([paper[2][-2], paper[2][-3], paper[2][-1]], 0), ([(None, "p", ("empty", 2))] + paper[2][-2:], 0),
                           ([(None, "p", ("full", 1))] + paper[2][-2:], 0), ([(None, "p", ("empty", 1))] + paper[2][-2:], 0),
                           (paper[2][-3:-1] + [(None, "r", ("empty", 2))], 2), (paper[2][-3:-1] + [(None, "r", ("full", 0))], 2)):
            self.assertEqual(earliest_judged(net, earliest(net), (*paper[:2], lines + some)),
                             None if told is None else ("line", len(lines) + told), some)

    def test_refused(self):
        net = two()
        for drive in ({}, {"p": SIGN}, {"p": SIGN, "q": None}, {"p": SIGN, "q": SIGN, None: SIGN}, {"p": SIGN, "q": ("", "")}):
            with self.assertRaises(NoDrive):
                earliest_judged(net, drive, None)
        self.assertEqual(earliest_judged(net=net, drive={"p": SIGN, "q": SIGN}, paper=None), ("paper",))

    def test_no_room(self):
        net = net_of("p copy, q pair, r copy", ("p x q a", (), 1), ("q x r a", (), None), ("r x q b", (), None))
        for call in (earliest, reasons, lambda net: waits(net, "p"), lambda net: waits(net, "zz"),
                     lambda net: earliest_judged(net, {}, None), lambda net: earliest_judged(net, {"p": SIGN}, (0, 1, []))):
            with self.assertRaises(NoRoom) as caught:
                call(net)
            self.assertEqual(caught.exception.lane, 1)


class Waits(unittest.TestCase):
    def told(self, net, title):
        told = waits(net, title)
        self.assertEqual(told[0][0], title)
        slow = slow_of(net)
        _, other, going, lies = slow.earliest()
        drive = earliest(net)
        steps = {x: sum(has_one(drive[x], at) for at in range(other)) for x, _ in slow.instances}
        at, seen = title, []
        for x, word, k in told:
            self.assertEqual(x, at)
            self.assertNotIn(x, seen)
            seen.append(x)
            if word == "over":
                self.assertIn("1", drive[x][1])
                self.assertIsNone(k)
                break
            self.assertIn((word, k), slow.needs(x, steps[x], lies[other]))
            giver, _, taker = slow.lanes[k][:3]
            self.assertEqual(x, taker if word == "empty" else giver)
            at = giver if word == "empty" else taker
        else:
            self.assertIn(at, seen)
        return told

    def test_by_hand(self):
        net = net_of(*STUCK)
        self.assertEqual(self.told(net, "p"), [("p", "empty", 1), ("q", "empty", 0)])
        self.assertEqual(self.told(net, "q"), [("q", "empty", 0), ("p", "empty", 1)])
        net = net_of("p copy", ("p x p a", (1,), 1))
        self.assertEqual(self.told(net, "p"), [("p", "full", 0)])
        net = net_of("p copy", ("p x p a", (), 1))
        self.assertEqual(self.told(net, "p"), [("p", "empty", 0)])

    def test_up_to_a_ring(self):
        net = net_of("p copy, q copy, r pair, s copy", ("r x p a", (), 2), ("r x s a", (), 2), ("s x r a", (), 2))
        self.assertEqual(self.told(net, "p"), [("p", "empty", 0), ("r", "empty", 2), ("s", "empty", 1)])
        with self.assertRaises(NoWait):
            waits(net, "q")

    def test_by_one_that_steps_on(self):
        net = net_of("p once, q copy, r copy", ("p x q a", (), 1), ("q x r a", (), 1))
        self.assertEqual(self.told(net, "r"), [("r", "empty", 1), ("q", "empty", 0), ("p", "over", None)])
        self.assertEqual(self.told(net, "q"), [("q", "empty", 0), ("p", "over", None)])
        with self.assertRaises(NoWait):
            waits(net, "p")

    def test_full_lanes(self):
        net = net_of("p copy, q pair, r copy", ("p x q a", (), 3), ("q x r a", (), 1), ("r x q b", (), 1))
        self.assertEqual(self.told(net, "p"), [("p", "full", 0), ("q", "empty", 2), ("r", "empty", 1)])

    def test_many(self):
        many = 0
        for seed in range(150):
            maker = Knotter(seed, signs=2)
            book = maker.book(1 + seed % 3)
            made = maker.net(book, 2 + seed % 4, rooms=True, full=1)
            if net_wrong(book, made) is not None:
                continue
            net = Net(book, made)
            drive = earliest(net)
            for title in drive:
                if "1" in drive[title][1]:
                    with self.assertRaises(NoWait):
                        waits(net, title)
                else:
                    many += len(self.told(net, title)) > 1
        self.assertGreater(many, 30)

    def test_refused(self):
        net = net_of("p copy, q copy")
        for title in ("zz", "", "P", "copy", "p q"):
            with self.assertRaises(NoTitle):
                waits(net, title)
        with self.assertRaises(NoWait):
            waits(net=net, title="p")


if __name__ == "__main__":
    unittest.main()
