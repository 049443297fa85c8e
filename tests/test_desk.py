"""A desk (48 to 50)."""

import unittest
from random import Random

from clockloom.books import Book
from clockloom.clocks import clocks
from clockloom.desk import Desk
from clockloom.errors import (
    LoomError, NoBack, NoBeat, NoBook, NoFace, NoLine, NoMeasure, NoModule, NoName, NoText, NoTitle, TooDeep, TooLong, Twice,
)
from clockloom.faces import face
from clockloom.flat import flat
from clockloom.fusing import gathered, if_count
from clockloom.kinds import kinds, kinds_judged
from clockloom.lines import clocks_judged
from clockloom.looms import woven
from clockloom.papertexts import paper_text, read_paper
from clockloom.parts import parts
from clockloom.stores import Store
from clockloom.texts import module_text, read_module
from clockloom.wants import order, order_judged, wants
from tests.growing import Grower, doors_of, right_beat
from tests.making import CLOCKED, Maker, SPLIT
from tests.slowpapers import slow_text

COUNT = "MODULE n (a) OUT (x)\nx = (0 THEN (x + a))"
RINGED = "MODULE n (a) OUT (x)\nx = (x + a)"
TOP = "MODULE m (a, c) OUT (z, x)\nx, y = s(a, c)\nz = (MERGE c x n(a))".replace("n(a)", "y")
ASKED = {"kinds": kinds, "clocks": clocks, "wants": wants, "order": order, "face": face, "flat": flat, "parts": parts}
WORDS = ("drop begin end back again feed over kinds clocks wants order face flat parts loop settle faces log flows state ifs names titles "
         "show beats judge put").split()


def desk_with(*texts, measure=50):
    desk = Desk(measure=measure)
    for text in texts:
        desk.say("put\n" + text)
    return desk


class Desks(unittest.TestCase):
    def refused(self, desk, kind, text, told=None, logged=None):
        """That a text is refused, and changes nothing but the log, that only where it is a call of the store."""
        before, log = self.all_of(desk), desk.say("log")
        with self.assertRaises(kind) as caught:
            desk.say(text)
        if told is not None:
            self.assertEqual(tuple(vars(caught.exception).values()), told, text)
        self.assertEqual(self.all_of(desk), before, text)
        expected = read_paper(log) + ([(logged, "refused")] if logged else [])
        self.assertEqual(read_paper(desk.say("log")), expected, text)

    def all_of(self, desk):
        names, titles = desk.say("names"), desk.say("titles")
        shown = [desk.say("show " + name) for name in names.split()]
        runs = [(desk.say("flows " + title), desk.say("state " + title), desk.say("beats " + title)) for title in titles.split()]
        return (names, titles, shown, runs)


class Deeds(Desks):
    def test_by_hand(self):
        desk = Desk()
        self.assertEqual((desk.say("names"), desk.say("titles"), desk.say("log")), ("", "", "[]"))
        for text, answer in (
            ("put\n" + SPLIT, "ok"), ("put\n" + COUNT, "ok"), ("names", "s n"), ("show n", COUNT), ("begin r n", "ok"), ("begin q s", "ok"),
            ("titles", "r q"), ("feed r a=5", "x=0"), ("feed r a=0", "x=5"), ("feed q a=7 c=yes", "x=7 y=-"), ("feed q c=no a=2147483646",
             "x=- y=2147483646"), ("beats r", "2"), ("flows q", "[(a 2147483646) (c no) (x none) (y 2147483646)]"),
            ("state r", "[(() (0 ()) 5)]"), ("state q", "[]"), ("over r", "[(() (0 ()))]"), ("beats r", "0"), ("flows r", "[]"), ("back", "ok"),
            ("beats r", "2"), ("again", "ok"), ("beats r", "0"), ("feed r a=1", "x=5"), ("drop s", "ok"), ("names", "n"), ("end q", "ok"),
            ("titles", "r"), ("back", "ok"), ("titles", "r q"), ("settle", "[n]"), ("settle", "[]"),
            ("log", "[(put done) (put done) (begin done) (begin done) (feed done) (feed done) (feed done) (feed done) (over done) (back done) "
             "(again done) (feed done) (drop done) (end done) (back done)]"),
            ("faces", "[(n ((number number) (() ()) (())))]"), ("put\nMODULE o (a) OUT (x, y)\nx = (a < 1)\ny = (BEATS (10))", "ok"),
            ("begin s o", "ok"), ("feed s a=0", "x=yes y=yes"), ("feed s a=999999999", "x=no y=no"), ("ifs n", "0"),
            ("kinds n", "(kinds [(a number) (x number) ((0 ()) number) ((0 (0)) number) ((0 (0 0)) number) ((0 (0 1)) number)])"),
        ):
            self.assertEqual(desk.say(text=text), answer, text)

    def test_no_ins_and_ins_that_are_not_there(self):
        desk = desk_with("MODULE m () OUT (x)\nx = (0 THEN (x + 1))", "MODULE k (c, a) OUT (x)\nx = (MERGE c a 1)")
        desk.say("begin r m")
        desk.say("begin q k")
        self.assertEqual([desk.say("feed r") for _ in range(3)], ["x=0", "x=1", "x=2"])
        self.assertEqual(desk.say("feed q c=no"), "x=1")
        self.assertEqual(desk.say("feed q a=9 c=yes"), "x=9")
        self.refused(desk, NoBeat, "feed q", ("c",), "feed")
        self.refused(desk, NoBeat, "feed q a=1", ("c",), "feed")
        self.refused(desk, NoBeat, "feed q c=no a=1", ("a",), "feed")
        self.refused(desk, NoBeat, "feed q c=yes", ("a",), "feed")
        self.refused(desk, NoBeat, "feed q c=yes a=50", ("a",), "feed")
        self.refused(desk, NoBeat, "feed q c=1 a=yes", ("c",), "feed")
        self.refused(desk, NoBeat, "feed q c=yes a=1 zz=1 b=2", ("b",), "feed")
        self.refused(desk, NoBeat, "feed r x=2", ("x",), "feed")
        self.refused(desk, NoTitle, "feed z", None, "feed")
        self.refused(desk, NoTitle, "feed  a=1", None, "feed")
        # The ins are those of the module with which the run was begun.
        desk.say("put\nMODULE m (a) OUT (x)\nx = a")
        self.assertEqual(desk.say("feed r"), "x=3")

    def test_measure(self):
        for measure in (1, 0, 10 ** 12 + 1):
            with self.assertRaises(NoMeasure):
                Desk(measure=measure)
        desk = desk_with("MODULE m (a) OUT (x)\nx = (7 THEN (a + 1))", measure=3)
        desk.say("begin r m")
        self.assertEqual((desk.say("feed r a=2"), desk.say("feed r a=0"), desk.say("loop m")),
                         ("x=1", "x=0", "([(x 1)] [(set '0-0' (sum (flow a) (num 1))) (set x (cell x)) (keep x (flow '0-0'))])"))
        self.refused(desk, NoBeat, "feed r a=3", ("a",), "feed")

    def test_refused_as_the_store_refuses(self):
        desk = desk_with(COUNT, "MODULE o (a) OUT (x)\nx = n(a)")
        for text, kind, told in (
            ("drop q", NoName, ("q",)), ("drop n", NoBook, (("call", 0, 0),)), ("drop ", NoName, ("",)), ("begin r q", NoName, ("q",)),
            ("begin R n", NoTitle, None), ("begin  n", NoTitle, None), ("end r", NoTitle, None), ("over r", NoTitle, None), ("back", None, None),
            ("again", NoBack, None), ("put\nMODULE n () OUT (x)\nx = 1", NoBook, (("call", 1, 0),)),
            ("put\nMODULE o () OUT (x)\nx = o()", NoBook, (("ring", ["o"]),)),
        ):
            if kind is None:
                continue
            self.refused(desk, kind, text, told, text.split()[0])
        desk.say("put\n" + RINGED)
        self.refused(desk, NoFace, "begin r n", (("ring", ["x"]),), "begin")
        fresh = Desk()
        self.refused(fresh, NoBack, "back", None, "back")

    def test_as_a_store_beside_it(self):
        for seed in range(12):
            chance = Random(seed)
            grown = Grower(seed, rows=4, deep=3).book(4).modules()
            desk, store = Desk(measure=50), Store(measure=50)
            for _ in range(60):
                names, titles = [module[0] for module in store.modules()] + ["q"], store.titles() + ["z"]
                name, title = chance.choice(names), chance.choice(titles)
                turn = chance.randrange(12)
                if turn < 2:
                    module = chance.choice(grown)
                    self.both(desk, "put\n" + module_text(module), lambda: store.put(module))
                elif turn == 2 and chance.random() < 0.4:
                    self.both(desk, f"drop {name}", lambda: store.drop(name))
                elif turn == 3:
                    title = chance.choice("abcd")
                    self.both(desk, f"begin {title} {name}", lambda: store.begin(title, name))
                elif turn == 4 and chance.random() < 0.3:
                    self.both(desk, f"end {title}", lambda: store.end(title))
                elif turn == 5:
                    self.both(desk, f"over {title}", lambda: store.over(title), paper_text)
                elif turn == 6:
                    self.both(desk, "back", store.back)
                elif turn == 7:
                    self.both(desk, "again", store.again)
                elif title != "z":
                    self.fed(desk, store, title, chance)
                self.assertEqual(desk.say("log"), paper_text(store.log()))
                self.assertEqual(desk.say("faces"), paper_text(store.faces()))
                if turn == 8:
                    self.assertEqual(desk.say("settle"), paper_text(store.settle()))
                self.assertEqual((desk.say("names"), desk.say("titles")), (
                    " ".join(module[0] for module in store.modules()), " ".join(store.titles())))
                for title in store.titles():
                    run = store.run_of(title)
                    self.assertEqual((desk.say("flows " + title), desk.say("state " + title), desk.say("beats " + title)),
                                     (paper_text(run.flows()), paper_text(run.state()), str(len(run))))

    def both(self, desk, text, call, answer=lambda told: "ok"):
        """That a line and a call of a store tell the same, or are refused alike."""
        try:
            told = call()
        except LoomError as error:
            with self.assertRaises(type(error)) as caught:
                desk.say(text)
            self.assertEqual(vars(caught.exception), vars(error))
        else:
            self.assertEqual(desk.say(text), answer(told))

    def fed(self, desk, store, title, chance):
        run = store.run_of(title)
        flows = [x for x, _ in run.flows()]
        ins = store.ins_of(title)
        beat = {x: chance.choice((None, True, False, 3, 7)) for x in ins}
        for module in store.modules():
            if module[1] == ins and chance.random() < 0.9:
                try:
                    beat = right_beat(chance, doors_of(Book(store.modules(), measure=50), module[0]), 50)
                except NoFace:
                    pass
        self.assertIsInstance(flows, list)
        some = [f"{x}={self.word(worth)}" for x, worth in beat.items() if worth is not None]
        self.both(desk, " ".join(["feed", title] + some), lambda: store.feed(title, beat),
                  lambda outs: " ".join(f"{x}={self.word(worth)}" for x, worth in outs.items()))

    def word(self, worth):
        return {None: "-", True: "yes", False: "no"}[worth] if not isinstance(worth, int) or isinstance(worth, bool) else str(worth)


class Asked(Desks):
    def test_as_the_functions_tell(self):
        for seed in range(60):
            maker = Maker(seed, words=CLOCKED[seed % 4]) if seed % 2 else Grower(seed, rows=5, deep=3)
            book = Book(maker.book(3).modules(), measure=9)
            desk = desk_with(*[module_text(module) for module in book.modules()], measure=9)
            for name in [module[0] for module in book.modules()] + ["q"]:
                for word, tell in ASKED.items():
                    self.same(desk, f"{word} {name}", lambda: slow_text(tell(book, name)))
                self.same(desk, f"loop {name}", lambda: slow_text(woven(flat(book, name), measure=9)))
                self.same(desk, f"ifs {name}", lambda: str(if_count(gathered(flat(book, name), measure=9))))
                self.same(desk, f"show {name}", lambda: module_text(book.module(name)))
            self.assertEqual(desk.say("faces"), slow_text(Store(book.modules()).faces()))
            self.assertEqual(desk.say("settle"), slow_text(Store(book.modules()).settle()))

    def same(self, desk, text, tell):
        try:
            told = tell()
        except LoomError as error:
            with self.assertRaises(type(error)) as caught:
                desk.say(text)
            self.assertEqual(vars(caught.exception), vars(error))
        else:
            self.assertEqual(desk.say(text), told)

    def test_runs(self):
        desk = desk_with(COUNT)
        for word in ("flows", "state", "beats"):
            self.refused(desk, NoTitle, f"{word} r")
            self.refused(desk, NoTitle, f"{word} ")

    def test_of_the_modules_as_they_are(self):
        desk = desk_with(COUNT)
        self.assertEqual(desk.say("face n"), "((number number) (() ()) (()))")
        desk.say("put\nMODULE n (a) OUT (x)\nx = (NOT a)")
        self.assertEqual(desk.say("face n"), "((truth truth) (() ()) ((a)))")
        desk.say("back")
        self.assertEqual(desk.say("face n"), "((number number) (() ()) (()))")

    def test_judge(self):
        desk = desk_with(SPLIT, COUNT, "MODULE o (a) OUT (x)\nx = (y + a)\ny = (x + 1)", "MODULE p (a) OUT (x)\nx = (a AND (a + 1))")
        book = Book([read_module(desk.say("show " + name)) for name in ("s", "n", "o", "p")])
        for name in ("s", "n", "o", "p"):
            for word, tell, judge in (("kinds", kinds, kinds_judged), ("clocks", clocks, clocks_judged), ("order", order, order_judged)):
                if word == "order" and name == "p":
                    self.refused(desk, NoFace, "judge order p (order [])", (kinds(book, "p"),))
                    continue
                self.assertEqual(desk.say(f"judge {word} {name} {paper_text(tell(book, name))}"), "yes")
                for text in ("none", "(kinds [])", "(clocks [])", "(order [x])", "(order [])", "(ring [x])", "(inner s)", "(clash [])", "{}",
                             "(clash [((0 ())) a])", "[{a 1}]", "(kinds [(a {}) ({} 1)])", "(ring [x y])", "(clash [x a])", "' '", "(plain 0 0)"):
                    told = judge(book, name, read_paper(text))
                    self.assertEqual(desk.say(f"judge {word} {name} {text}"), "yes" if told is None else "no " + slow_text(told))
        self.assertEqual(desk.say("judge order o (ring [x y])"), "yes")
        self.assertEqual(desk.say("judge order n (order [])"), "no (all)")

    def test_judge_refused(self):
        desk = desk_with(SPLIT)
        for text in ("judge", "judge kinds", "judge kinds s", "judge kinds s ", "judge kinds  ", "judge face s ()", "judge Kinds s ()", "judge  s ()",
                     "judge flat s ()", "judge kinds s (a\n)", "judge settle s ()"):
            self.refused(desk, NoLine, text)
        for text, at in (("judge kinds s (", 1), ("judge kinds s  ()", 0), ("judge kinds s () ", 2), ("judge clocks q (kinds  [])", 7),
                         ("judge order q 'a'", 0), ("judge kinds   ", 0), ("judge order s {none 1}", 5), ("judge kinds  x ()", 1)):
            self.refused(desk, NoText, text, (0, at))
        self.refused(desk, NoName, "judge kinds q ()", ("q",))
        self.refused(desk, NoName, "judge order  ()", ("",))
        self.refused(desk, NoText, "judge kinds s " + "(" * 41 + ")" * 41, (0, 40))
        self.assertEqual(desk.say("judge kinds s " + "(" * 40 + ")" * 40), "no (paper)")

    def test_too_long_and_too_deep(self):
        rows = "\n".join(f"y{a}{b} = (y{a}{b} - (0 THEN 1))".replace(f"= (y{a}{b}", "= (a") for a in "abcdefgh" for b in "abcdef")
        calls = "\n".join(f"z{a}{b} = n(a)" for a in "abc" for b in "abcdefghijklmnop")
        desk = desk_with("MODULE n (a) OUT (yaa)\n" + rows, "MODULE m (a) OUT (zaa)\n" + calls)
        for word in ("flat", "loop", "ifs"):
            self.refused(desk, TooLong, f"{word} m")
        self.assertEqual(desk.say("parts m"), "[((zaa) (a))]")
        # Twenty ifs within one another: of each a tuple and a list.
        signs = "abcdefghijklmnopqrst"
        rows = [f"b{sign} = (BEATS (10))" for sign in signs]
        rows += [f"w{sign} = ({'w' + ahead if ahead else 'TRUE'} WHEN b{sign})" for ahead, sign in zip(" " + signs, signs) if ahead != " "]
        rows += ["wa = (TRUE WHEN ba)"] + [f"t{sign} = (b{sign} = w{ahead})" for ahead, sign in zip(signs, signs[1:])]
        text = "MODULE m () OUT (ba)\n" + "\n".join(rows[:60])
        desk = desk_with(text)
        self.refused(desk, TooDeep, "loop m")
        self.assertEqual(desk.say("ifs m"), str(if_count(gathered(flat(Book([read_module(text)]), "m")))))

class Lines(Desks):
    def test_no_line(self):
        desk = desk_with(SPLIT)
        desk.say("begin r s")
        counts = {"drop": 1, "begin": 2, "end": 1, "back": 0, "again": 0, "over": 1, "settle": 0, "faces": 0, "log": 0, "names": 0, "titles": 0}
        for word in WORDS:
            if word in ("put", "judge", "feed"):
                continue
            many = counts.get(word, 1)
            for more in range(5):
                if more != many:
                    self.refused(desk, NoLine, " ".join([word] + ["s"] * more))
                    self.refused(desk, NoLine, " ".join([word] + [""] * more))
            self.refused(desk, NoLine, " ".join([word] + ["s"] * many) + "\n")
            self.refused(desk, NoLine, " ".join([word] + ["s"] * many) + " ")
            self.refused(desk, NoLine, " " + " ".join([word] + ["s"] * many))
            self.refused(desk, NoLine, " ".join([word] + ["s"] * many) + "\ns")
            self.refused(desk, NoLine, "\n" + " ".join([word] + ["s"] * many))
            self.refused(desk, NoLine, " ".join([word, ""] + ["s"] * many))
            self.refused(desk, NoLine, word.upper())
        for text in ("", " ", "\n", "x", "feed", "feed\n", "feed r a=1\n", "feed r\na=1", " feed r", "put", "put ", "put x", "put " + SPLIT, "put x\n" + SPLIT,
                     "put \n" + SPLIT, " put\n" + SPLIT, "Put\n" + SPLIT, "deeds", "say x", "modules", "run r", "puts\n" + SPLIT, "judge\n"):
            self.refused(desk, NoLine, text)

    def test_module_texts(self):
        desk = desk_with(SPLIT)
        for text in ("", "\n", "x", SPLIT + "\n", SPLIT[:-1], "MODULE s (a) OUT (x)\nx = (a + When)", "MODULE s (a) OUT ()\n", " " + SPLIT,
                     SPLIT + "\n\n" + COUNT, "MODULE s (a) OUT (x)\nx = b", "MODULE s (a) OUT ()", "MODULE s (a) OUT (x)\na = 1",
                     "MODULE s () OUT (x)\n" + "\n".join(["x = 1"] * 61)):
            try:
                read_module(text)
            except (NoText, NoModule) as error:
                self.refused(desk, type(error), "put\n" + text, tuple(vars(error).values()))
            else:
                self.fail(text)
        self.assertEqual(desk.say("log"), "[(put done)]")
        # A module that is one may be refused by the store.
        self.refused(desk, NoBook, "put\nMODULE n () OUT (x)\nx = q()", (("call", 1, 0),), "put")

    def test_words_of_a_feed(self):
        desk = desk_with(SPLIT)
        desk.say("begin r s")
        for text, at in (
            ("feed r a", 7), ("feed r a=", 7), ("feed r =1", 7), ("feed r a=1 ", 11), ("feed r  a=1", 7), ("feed r a=01", 7), ("feed r a=-1", 7),
            ("feed r a=1234567890123", 7), ("feed r a=yes c=Yes", 13), ("feed r a=1 c=", 11), ("feed r abcdefghi=1", 7), ("feed r A=1", 7),
            ("feed r a=1=1", 7), ("feed r a==1", 7), ("feed r a=none", 7), ("feed r a=-", 7), ("feed r a=1 c=yes a", 17), ("feed r a=1 a=01", 11),
            ("feed r a=1 c", 11), ("feed  a", 6), ("feed q a=x", 7), ("feed r a1=1", 7), ("feed r a=00", 7), ("feed r a=1a", 7), ("feed r a=yesno", 7),
            ("feed  ", 6), ("feed r a=1 c=0001 c=yes", 11), ("feed abc a=1 b=2 -=3", 17),
        ):
            self.refused(desk, NoText, text, (0, at))
        for text, name in (("feed r a=1 a=1", "a"), ("feed r c=yes a=1 c=no", "c"), ("feed q zz=1 zz=0 x", "zz"), ("feed r a=1 a=2 a=03", "a")):
            self.refused(desk, Twice, text, (name,))
        self.assertEqual(desk.say("feed r abc=1 a=1 c=yes".replace("abc=1 ", "")), "x=1 y=-")
        self.refused(desk, NoBeat, "feed r a=123456789012 c=yes", ("a",), "feed")
        self.refused(desk, NoBeat, "feed r a=0 c=0 abcdefgh=0", ("c",), "feed")
        self.assertEqual(desk.say("feed r c=no a=0"), "x=- y=0")

    def test_two_desks_are_apart(self):
        one, other = Desk(), Desk()
        one.say("put\n" + SPLIT)
        self.assertEqual((one.say("names"), other.say("names"), other.say("log")), ("s", "", "[]"))


if __name__ == "__main__":
    unittest.main()
