"""Papers as texts (47)."""

import time
import unittest
from random import Random

from clockloom.clocks import clocks
from clockloom.errors import NoText, TooDeep
from clockloom.faces import face
from clockloom.flat import flat
from clockloom.kinds import kinds, kinds_judged
from clockloom.lines import clocks_judged
from clockloom.looms import woven
from clockloom.loops import loop_judged
from clockloom.papertexts import MOST_DEEP, paper_text, read_paper
from clockloom.wants import order, order_judged
from tests.growing import Grower
from tests.making import ANYTHING, CLOCKED, Maker, has_face
from tests.slowpapers import deep_of, is_bare, slow_at, slow_text

THINGS = ANYTHING + (
    "none", "yes", "no", "nones", "noo", "abcdefghijklmnop", "A", "a b", "a1", " ", "'", "^", "''", "^n", "\n", "^'\n", "a\nb", "~!@#", "()",
    -5, -10 ** 40, 10 ** 40, {}, {"a": 1}, {"none": 1, "no": None, "nos": True}, {"": {}, "b": [(), {"c": ()}], "a": "a", "A": "A"},
    (1, (2, (3, "x")), [4, [5]]), [None, [True, [False]]], {"it's": "^", "a\n": "\n"}, ((), [], {}), (-1, 0, 1), "x" * 5000,
)


def nested(many):
    """A thing in which so many lie within one another."""
    thing = 7
    for at in range(many):
        thing = ((thing,), [thing], {"a": thing}, (1, thing, 2))[at % 4]
    return thing


class There(unittest.TestCase):
    def test_the_writing(self):
        for thing, text in (
            (None, "none"), (True, "yes"), (False, "no"), (0, "0"), (-7, "-7"), (12, "12"), ("abc", "abc"), ("none", "'none'"), ("yes", "'yes'"),
            ("no", "'no'"), ("", "''"), ("a b", "'a b'"), ("A", "'A'"), ("it's", "'it^'s'"), ("^", "'^^'"), ("\n", "'^n'"), ("0", "'0'"),
            ((), "()"), ((1,), "(1)"), ((1, "a", None), "(1 a none)"), ([], "[]"), ([[1], (2,)], "[[1] (2)]"), ({}, "{}"),
            ({"b": 1, "a": 2}, "{a 2 b 1}"), ({"none": {"a": ()}, "Z": "z"}, "{'Z' z 'none' {a ()}}"), ({"": 0, "nos": 1, "no": 2}, "{'' 0 'no' 2 nos 1}"),
        ):
            self.assertEqual(paper_text(thing), text)
            self.assertEqual(repr(read_paper(text)), repr({key: thing[key] for key in sorted(thing)} if isinstance(thing, dict) else thing))

    def test_there_and_back(self):
        for thing in THINGS:
            text = paper_text(thing=thing)
            self.assertEqual(text, slow_text(thing))
            self.assertEqual(slow_text(read_paper(text=text)), text)
            self.assertEqual(read_paper(text), thing)
            self.assertEqual(type(read_paper(text)), type(thing))

    def made(self, chance, deep):
        """A thing of any form."""
        turn = chance.randrange(10 if deep else 6)
        if turn < 6:
            return chance.choice((None, True, False, chance.randrange(-99, 99), "".join(chance.choices("abno'^ \nA", k=chance.randrange(4))),
                                  chance.choice(("none", "yes", "no", "x"))))
        some = [self.made(chance, deep - 1) for _ in range(chance.randrange(4))]
        if turn < 8:
            return tuple(some) if turn == 6 else some
        return {self.key(chance): part for part in some}

    def key(self, chance):
        return chance.choice(("no", "none", "nos", "a", "", "b", "A", "'", "^", "\n", "aa", "yes"))

    def test_of_any_form(self):
        chance = Random(1)
        texts = {}
        for _ in range(3000):
            thing = self.made(chance, 4)
            text = paper_text(thing)
            self.assertEqual(text, slow_text(thing))
            self.assertEqual(slow_text(read_paper(text)), text)
            self.assertEqual(read_paper(text), thing)
            self.assertEqual(texts.setdefault(text, repr(self.sorted_of(thing))), repr(self.sorted_of(thing)))
        self.assertEqual(len(set(texts.values())), len(texts))

    def sorted_of(self, thing):
        """The same thing with the keys of its dicts in order."""
        if isinstance(thing, dict):
            return {key: self.sorted_of(thing[key]) for key in sorted(thing)}
        return type(thing)(self.sorted_of(part) for part in thing) if isinstance(thing, (tuple, list)) else thing

    def test_deep(self):
        self.assertEqual(MOST_DEEP, 40)
        for many in (0, 1, 39, 40, 41, 99, 100, 101, 150, 3000):
            thing = nested(many)
            text = slow_text(thing) if many < 200 else None
            for deep in (None, -10 ** 29, -1, 0, 1, 39, 40, 41, 99, 100, 101, 5000, 10 ** 29):
                more = {} if deep is None else {"deep": deep}
                most = 40 if deep is None else min(deep, 100)
                if many <= max(most, 0):
                    self.assertEqual(paper_text(thing, **more), text)
                    self.assertEqual(repr(read_paper(text, **more)), repr(thing))
                    continue
                with self.assertRaises(TooDeep):
                    paper_text(thing, **more)
                if text is not None:
                    with self.assertRaises(NoText) as caught:
                        read_paper(text, **more)
                    opens = [at for at, sign in enumerate(text) if sign in "([{"]
                    self.assertEqual((caught.exception.row, caught.exception.at), (0, opens[max(most, 0)]))
        self.assertEqual(paper_text([(), ()], deep=2), "[() ()]")
        with self.assertRaises(TooDeep):
            paper_text((1, [2, {}], 3), deep=2)
        self.assertEqual((paper_text("a", deep=-1), read_paper("a", deep=-5)), ("a", "a"))

    def test_what_is_told_may_be_changed(self):
        thing = {"a": [1, {"b": []}]}
        text = paper_text(thing)
        read_paper(text)["a"][1]["b"].append(3)
        self.assertEqual((read_paper(text), thing), ({"a": [1, {"b": []}]},) * 2)
        listed = read_paper("([] [])")
        listed[0].append(1)
        self.assertEqual(listed, ([1], []))

    def test_told_soon(self):
        book = Grower(5, rows=9, deep=5).book(4)
        told = flat(book, book.modules()[-1][0])
        thing = (told, woven(told)) * 20
        begin = time.monotonic()
        text = paper_text(thing)
        self.assertEqual(read_paper(text), thing)
        self.assertEqual(read_paper("[" + "1 " * 50000 + "7]"), [1] * 50000 + [7])
        self.assertLess(time.monotonic() - begin, 10)


class Breaks(unittest.TestCase):
    def breaks(self, text, at, **more):
        with self.assertRaises(NoText) as caught:
            read_paper(text, **more)
        self.assertEqual((caught.exception.row, caught.exception.at), (0, at), text)

    def test_by_hand(self):
        for text, at in (
            ("{none 1}", 5), ("{nos 1 no 2}", 7), ("", 0), (" ", 0), ("nonE", 3), ("none ", 4), ("a1", 1), ("00", 1), ("01", 1), ("-", 1), ("-0", 1),
            ("--1", 1), ("-a", 1), ("1a", 1), ("1 ", 1), ("+1", 0), ("A", 0), ("'", 1), ("'a", 2), ("'a'", 0), ("'abc'd", 0), ("'A'x", 3), ("'^", 2),
            ("'^a'", 2), ("'^N'", 2), ("'a\nb'", 2), ("\n", 0), ("a\n", 1), ("a'", 1), ("'''", 2), ("(", 1), (")", 0), ("(1", 2), ("(1 ", 3), ("(1 )", 3),
            ("( 1)", 1), ("(1  2)", 3), ("(1,2)", 2), ("(1]", 2), ("[1)", 2), ("()()", 2), ("() ", 2), ("(a(b))", 2), ("([)", 2), ("{", 1), ("{a", 2),
            ("{a}", 2), ("{a ", 3), ("{a }", 3), ("{a 1", 4), ("{a 1 ", 5), ("{a 1 }", 5), ("{1 2}", 1), ("{(a) 1}", 1), ("{-1 2}", 1), ("{ }", 1),
            ("{a 1 b}", 6), ("{a 1,b 2}", 4), ("{a 1 a 2}", 5), ("{b 1 a 2}", 5), ("{b 1 a", 5), ("{b 1 a}", 5), ("{b 1 aX", 5), ("{b 1 bb", 7),
            ("{b 1 'b", 7), ("{b 1 'B'", 5), ("{b 1 'B' 2}", 5), ("{b 1 'b'", 5), ("{'a' 1}", 1), ("{'B' 1 'A' 2}", 7), ("{'no' 1 no 2}", 8),
            ("{'no' 1 'none' 2 'no' 3}", 17), ("{no", 3), ("{no 1}", 3), ("{a 1 no 2}", 7), ("{a 1 no", 7), ("{a 1 yes", 8), ("{yes}", 4),
            ("{a {b 1} a 2}", 9), ("{a {b 1 b 2} a 2}", 8), ("{b {a 1}", 8), ("{a 'b'}", 3), ("('a' b)", 1), ("(b 'none' 'nones')", 10),
            ("{a none b yes c no}", None), ("('none' '' ^)", 11), ("{'' 1 '' 2}", 6), ("{a 1 'a\x7f' 2}", 7), ("{z 1 aa\n", 5),
        ):
            self.assertEqual(slow_at(text), at, text)
            if at is not None:
                self.breaks(text, at)
        self.assertEqual(read_paper("{a none b yes c no}"), {"a": None, "b": True, "c": False})

    def test_each_beginning_ends_too_soon(self):
        for text in ("(1 [a 'b c' -20] {'' 0 a {b none} 'no^'' ()})", "{'A' 'it^'s ^^^n' nos -1}"):
            read_paper(text)
            for at in range(len(text)):
                self.breaks(text[:at], at)

    def test_any_texts(self):
        chance = Random(7)
        made = There()
        refused = 0
        for turn in range(4000):
            text = slow_text(made.made(chance, 3))[:30]
            for _ in range(chance.randrange(4)):
                at = chance.randrange(len(text) + 1)
                sign = chance.choice("abno '^n-01(){}[]A\n")
                text = (text[:at] + sign + text[at:], text[:at] + text[at + 1:], text[:at] + sign + text[at + 1:])[chance.randrange(3)]
            deep = chance.choice((40, 40, 0, 1, 2))
            at = slow_at(text, deep)
            if at is None:
                self.assertEqual(slow_text(read_paper(text, deep=deep)), text)
                self.assertLessEqual(deep_of(read_paper(text)), deep)
            else:
                refused += 1
                self.breaks(text, at, deep=deep)
        self.assertGreater(refused, 1000)

    def test_keys_of_any_kind(self):
        keys = ("", "a", "aa", "b", "no", "none", "nos", "yes", "yet", "A", "'", "^", " ")
        for one in keys:
            for other in keys:
                texts = [key if bare else "'" + key.replace("^", "^^").replace("'", "^'") + "'" for key in (one, other) for bare in (
                    is_bare(key),)]
                text = f"{{{texts[0]} 1 {texts[1]} 2}}"
                if one < other:
                    self.assertEqual(read_paper(text), {one: 1, other: 2})
                else:
                    self.breaks(text, len(texts[0]) + 4)

    def test_long_numbers(self):
        for many in (1, 30, 4299, 4300):
            self.assertEqual(read_paper("9" * many), int("9" * many))
            self.assertEqual(paper_text(-int("9" * many)), "-" + "9" * many)
        self.breaks("x1" + "9" * 5000, 1)
        self.breaks("(00" + "9" * 5000 + ")", 2)
        for many in (59, 60, 61, 119, 120, 121, 180):
            text = ("1234567890" * 20)[:many]
            self.assertEqual((read_paper(text), read_paper("-" + text)), (int(text), -int(text)))
        # What ends too soon, or breaks off, within so long a number.
        for text in ("9" * 4301 + "x", "[1" + "0" * 9000 + ",", "-" + "9" * 5000 + "-"):
            self.breaks(text, len(text) - 1)
        for text in ("[" + "9" * 5000, "{a (-" + "1" * 9990):
            self.breaks(text, len(text))


class Papers(unittest.TestCase):
    def test_judges_let_by_the_paper_that_is_read(self):
        for seed in range(60):
            book = Maker(seed, words=CLOCKED[seed % 4]).book(2)
            name = book.modules()[-1][0]
            for tell, judge in ((kinds, kinds_judged), (clocks, clocks_judged)):
                paper = read_paper(paper_text(tell(book, name)))
                self.assertEqual(repr(paper), repr(tell(book, name)))
                self.assertIsNone(judge(book, name, paper))
            if has_face(book, name):
                self.assertIsNone(order_judged(book, name, read_paper(paper_text(order(book, name)))))
                self.assertEqual(read_paper(paper_text(face(book, name))), face(book, name))
                told = read_paper(paper_text(flat(book, name)))
                loop = read_paper(paper_text(woven(told)))
                self.assertEqual((told, loop), (flat(book, name), woven(flat(book, name))))
                self.assertIsNone(loop_judged(told, loop))

    def test_modules_and_books(self):
        for seed in range(30):
            modules = Grower(seed).book(3).modules()
            text = paper_text(modules)
            self.assertEqual(repr(read_paper(text)), repr(modules))


if __name__ == "__main__":
    unittest.main()
