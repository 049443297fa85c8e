"""Clocks told as words (33)."""

import unittest

from clockloom.clocks import clocks
from clockloom.clockwords import clock_word
from clockloom.errors import NoFace, NoFlow, NoName, TooLong
from clockloom.shapes import flows_of
from clockloom.teller import Run
from clockloom.words import is_word, least_word, letter, on, other_of
from tests.growing import Grower, history
from tests.making import book_of
from tests.netmaking import Knotter

BEATS = ("MODULE m (a, c) OUT (x)\nb = (BEATS 0(10))\np = b\nq = (NOT p)\nr = (NOT q)\nx = (a WHEN b)\ny = (a UNLESS b)\n"
         "xp = (a WHEN p)\nxq = (a WHEN q)\nyq = (a UNLESS q)\nxr = (a WHEN r)\nxc = (a WHEN c)\nn = (NOT (NOT b))\n"
         "xn = (a WHEN n)\ni = (IF b THEN b ELSE b)\nxi = (a WHEN i)\nd = (BEATS (110))\nt = (d AND (TRUE WHEN b))\n"
         "xd = ((a WHEN b) WHEN d)\nyd = ((a WHEN b) UNLESS d)\nxm = ((a WHEN c) WHEN e)\ne = (BEATS (1))\nu = (e AND (TRUE WHEN c))")


class Told(unittest.TestCase):
    def setUp(self):
        self.book = book_of(BEATS.replace("OUT (x)", "OUT (x, b)"))

    def word(self, x):
        return clock_word(self.book, "m", x)

    def test_no_conditions(self):
        for x in ("a", "c", "b", "p", "q", "r", "n", "i"):
            self.assertEqual(self.word(x), ("", "1"))

    def test_one_condition(self):
        self.assertEqual(self.word("x"), ("", "01"))
        self.assertEqual(self.word("y"), ("", "10"))

    def test_by_flow_and_by_not_one_behind_the_other(self):
        self.assertEqual([self.word(x) for x in ("xp", "xq", "yq", "xr")], [("", "01"), ("", "10"), ("", "01"), ("", "01")])

    def test_several(self):
        self.assertEqual(self.word("xd"), on(("", "01"), ("", "110")))
        self.assertEqual(self.word("xd"), ("", "010100"))
        self.assertEqual(self.word("yd"), ("", "000001"))
        self.assertEqual(self.word("d"), ("", "01"))

    def test_conditions_that_hang_on_others(self):
        for x in ("xc", "xn", "xi", "xm", "e", "u"):
            self.assertIsNone(self.word(x))

    def test_targets_of_calls_are_no_beats_flows(self):
        book = book_of("MODULE n () OUT (x)\nx = (BEATS (10))", "MODULE m (a) OUT (x, b)\nb = n()\nx = (a WHEN b)\ny = (a WHEN c)\nc = b")
        self.assertEqual([clock_word(book, "m", x) for x in "abxyc"], [("", "1"), ("", "1"), None, None, ("", "1")])

    def test_least(self):
        book = book_of("MODULE m (a) OUT (x, b)\nb = (BEATS 0101(0101))\nx = (a WHEN b)\ny = (a UNLESS b)")
        self.assertEqual((clock_word(book, "m", "x"), clock_word(book, "m", "y")), (("", "01"), ("", "10")))
        book = book_of("MODULE m (a) OUT (x, b)\nb = (BEATS (11))\nx = (a WHEN b)\ny = (a UNLESS b)")
        self.assertEqual((clock_word(book, "m", "x"), clock_word(book, "m", "y")), (("", "1"), ("", "0")))

    def test_as_runs_tell(self):
        many = 0
        for seed in range(90):
            book = Knotter(seed).book(2)
            for module in book.modules():
                name = module[0]
                run = Run(book, name)
                table = dict(clocks(book, name)[1])
                told = {x: clock_word(book, name, x) for x in flows_of(module)}
                for at, beat in enumerate(history(seed, book, name, 12)):
                    run.feed(beat)
                    for x, worth in run.flows():
                        if told[x] is not None:
                            self.assertEqual(letter(told[x], at), worth is not None)
                for x, word in told.items():
                    self.assertEqual(word, least_word(word))
                    many += len(table[x][1]) > 1
        self.assertGreater(many, 40)

    def test_put_on_from_the_first_condition_on(self):
        for seed in range(60):
            book = Knotter(seed).book(1)
            module = book.modules()[0]
            rows = {targets[0]: e for targets, e in module[3]}
            table = dict(clocks(book, module[0])[1])
            for x in flows_of(module):
                word = ("", "1")
                for c, b in table[x][1]:
                    e, turned = rows[c], False
                    while e[0] != "beats":
                        turned = turned != (e[0] == "not")
                        e = rows[(e if e[0] == "flow" else e[1])[1]]
                    own = other_of(e[1:]) if turned else least_word(e[1:])
                    word = on(word, own if b else other_of(own))
                self.assertEqual(clock_word(book, module[0], x), word)

    def test_of_modules_of_any_clocks(self):
        for seed in range(30):
            book = Grower(seed, rows=7, deep=4).book(2)
            for module in book.modules():
                table = dict(clocks(book, module[0])[1])
                rows = {targets[0]: e for targets, e in module[3] if e[0] != "call"}
                for x in flows_of(module):
                    some = [c for c, _ in table[x][1]]
                    word = clock_word(book, module[0], x)
                    if any(c not in rows or rows[c][0] not in ("beats", "flow", "not") for c in some):
                        self.assertIsNone(word)
                    if all(c in rows and rows[c][0] == "beats" for c in some):
                        self.assertTrue(is_word(word))


class Refused(unittest.TestCase):
    def test_in_their_order(self):
        book = book_of(BEATS.replace("OUT (x)", "OUT (x, b)"), "MODULE o () OUT (x)\nx = (x + 1)")
        with self.assertRaises(NoName):
            clock_word(book, "z", "zz")
        with self.assertRaises(NoFace) as caught:
            clock_word(book, "o", "zz")
        self.assertEqual(caught.exception.paper, ("ring", ["x"]))
        for x in ("zz", "", "X", "m"):
            with self.assertRaises(NoFlow) as caught:
                clock_word(flow=x, book=book, name="m")
            self.assertEqual(caught.exception.name, x)

    def nested(self, *more):
        """A book of three beats flows, one over the other, of as many 1s and one 0."""
        text = ("MODULE m (a, c) OUT (x, ba, bb)\nx = ((a WHEN ba) WHEN bb)\ny = (x WHEN bc)\n"
                "va = (bb AND (TRUE WHEN ba))\nvb = (bc AND ((TRUE WHEN ba) WHEN bb))")
        rows = [f"{b} = (BEATS ({'1' * many}0))" for b, many in (("ba", 58), ("bb", 52), ("bc", 46))]
        return book_of("\n".join([text, *rows, *more]))

    def test_too_long(self):
        book = self.nested()
        # 58 and 53 go into no less than 58 * 53, that is 53 agains of 59 signs.
        self.assertEqual(len(clock_word(book, "m", "x")[1]), 59 * 53)
        self.assertEqual(clock_word(book, "m", "bc"), clock_word(book, "m", "x"))
        with self.assertRaises(TooLong):
            clock_word(book, "m", "y")

    def test_none_goes_ahead_of_too_long(self):
        book = self.nested("f = (y = y)", "w = (y WHEN f)")
        for x in ("y", "f"):
            with self.assertRaises(TooLong):
                clock_word(book, "m", x)
        self.assertIsNone(clock_word(book, "m", "w"))


if __name__ == "__main__":
    unittest.main()
