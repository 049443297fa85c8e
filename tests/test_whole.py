"""The whole way of 3, from texts of modules to nets and stores; and 1 and 2 of all together."""

import unittest
from random import Random

from clockloom.books import Book
from clockloom.callers import caller_for, caller_judged
from clockloom.clocks import clocks
from clockloom.driving import earliest, earliest_judged, reasons
from clockloom.errors import LoomError, NoFace
from clockloom.faces import face
from clockloom.flat import flat, told_flat
from clockloom.fusing import fused, gathered, if_count
from clockloom.kinds import kinds, kinds_judged
from clockloom.lines import clocks_judged
from clockloom.loops import loop_judged
from clockloom.looms import woven
from clockloom.machines import Machine
from clockloom.nets import Net, lane_judged, lanes_told, net_wrong
from clockloom.netruns import NetRun
from clockloom.papertexts import paper_text, read_paper
from clockloom.parts import Parted, parts
from clockloom.stores import Store
from clockloom.teller import Run
from clockloom.texts import modules_text, read_modules
from clockloom.wants import order, order_judged, wants
from tests.growing import Grower, doors_of, history
from tests.making import CLOCKED, Maker
from tests.netmaking import Knotter
from tests.slowflat import slow_flat
from tests.slownets import SlowNet
from tests.slowteller import SlowRun
from tests.wildloom import begins_of, wild_loop


def holds_lists(thing, found):
    """Whether no list or dict stands at two places of a thing; found keeps those seen."""
    if isinstance(thing, (list, dict)):
        if id(thing) in found:
            return False
        found[id(thing)] = thing
    parts_of = list(thing.values()) if isinstance(thing, dict) else thing if isinstance(thing, (tuple, list)) else []
    return all([holds_lists(part, found) for part in parts_of])


def spoiled(thing):
    """Changes all lists and dicts of a thing."""
    parts_of = list(thing.values()) if isinstance(thing, dict) else list(thing) if isinstance(thing, (tuple, list)) else []
    for part in parts_of:
        spoiled(part)
    if isinstance(thing, (list, dict)):
        thing.clear()


class Whole(unittest.TestCase):
    def all_told(self, book, name):
        """All that goes as a module goes: (feed, more) for each; more ends a beat of parts."""
        told = flat(book, name)
        measure = book.measure()
        loops = [woven(told, measure=measure), gathered(told, measure=measure), wild_loop(7, told, begins_of(told, measure))]
        loops.append(fused(told, loops[0], measure=measure))
        loops.append(fused(told, loops[2], measure=measure))
        for loop in loops:
            self.assertIsNone(loop_judged(told, loop, measure=measure))
            self.assertIsNone(loop_judged(told, read_paper(paper_text(loop, deep=100)), measure=measure))
        self.assertLessEqual(if_count(loops[1]), if_count(loops[3]))
        return told, [Machine(told, loop, measure=measure).feed for loop in loops]

    def test_from_texts_to_parts(self):
        with_several = 0
        for seed in range(50):
            grown = Grower(seed, rows=4 + seed % 5, deep=2 + seed % 4).book(1 + seed % 4)
            text = modules_text(grown.modules())
            book = Book(read_modules(text), measure=(2, 11, 10 ** 12)[seed % 3])
            self.assertEqual(modules_text(book.modules()), text)
            for module in book.modules():
                name = module[0]
                self.assertIsNone(kinds_judged(book, name, kinds(book, name)))
                self.assertIsNone(clocks_judged(book, name, clocks(book, name)))
                self.assertIsNone(order_judged(book, name, order(book, name)))
                self.assertEqual(len(face(book, name)[0]), len(module[1]) + len(module[2]))
            try:
                with_several += self.runs_alike(book, name, seed)
            except LoomError as error:
                self.assertEqual(type(error).__name__, "TooLong")
        self.assertGreater(with_several, 10)

    def runs_alike(self, book, name, seed):
        """That a module's run, flat one, machines and parts tell the same; whether it has several parts."""
        told, machines = self.all_told(book, name)
        lots = parts(book, name)
        run, slow, ran = Run(book, name), SlowRun(book, name), Parted(book, name)
        beats = history(seed, book, name, 10)
        expected = [run.feed(beat) for beat in beats]
        self.assertEqual(repr(told_flat(told, beats, measure=book.measure())), repr(expected))
        chance = Random(seed)
        for beat, outs in zip(beats, expected):
            self.assertEqual(repr(slow.feed(beat)), repr(outs))
            for feed in machines:
                self.assertEqual(repr(feed(beat)), repr(outs))
            for k in chance.sample(range(len(lots)), chance.randrange(len(lots) + 1)):
                answer = ran.told(k, {x: beat[x] for x in lots[k][1]})
                self.assertEqual(repr(answer), repr({x: outs[x] for x in lots[k][0]}))
            ran.go_on(beat)
        for outs, _ in lots:
            for others, _ in lots:
                made = caller_for(book, name, outs[0], others[-1])
                self.assertEqual(made is None, outs == others)
                if made is not None:
                    self.assertIsNone(caller_judged(book, name, outs[0], others[-1], made))
        return len(lots) > 1

    def test_what_is_not_let_by_comes_with_a_paper(self):
        seen = {}
        for seed in range(150):
            book = Maker(seed, words=CLOCKED[seed % 4]).book(2)
            name = book.modules()[-1][0]
            try:
                face(book, name)
            except NoFace as error:
                word = error.paper[0]
                seen[word] = True
                judge = {"clash": kinds_judged, "ring": order_judged, "plain": clocks_judged}.get(word)
                if word == "clash" and kinds(book, name) != error.paper:
                    judge = clocks_judged
                if judge is not None:
                    self.assertIsNone(judge(book, name, error.paper))
                    self.assertIsNone(judge(book, name, read_paper(paper_text(error.paper))))
        self.assertLessEqual({"clash", "ring", "plain"}, set(seen))

    def test_a_module_calls_others_without_a_ring_just_where_the_flat_one_has_none(self):
        rings = plain = 0
        for seed in range(200):
            below = Grower(seed, rows=4, deep=3, calls=0).book(1)
            ins, outs = below.modules()[0][1:3]
            chance = Random(seed)
            targets = [f"t{sign}" for sign in "abcdefgh"[:len(outs)]]
            known = [(x, kind) for x, kind in zip(targets, face(below, "ma")[0][len(ins):])] + [("p", "number"), ("q", "truth")]
            args = []
            for kind in face(below, "ma")[0][:len(ins)]:
                some = [x for x, its in known if its == kind] or ["p"]
                args.append(("flow", chance.choice(some)))
            top = ("top", ("p", "q"), (targets[0],), [(tuple(targets), ("call", "ma", args))])
            book = Book(below.modules() + [top])
            try:
                face(book, "top")
            except NoFace as error:
                if error.paper[0] != "ring":
                    continue
                rings += 1
                with self.assertRaises(IndexError):
                    # No row may come next.
                    slow_flat(book, "top")
            else:
                plain += 1
                self.assertEqual(slow_flat(book, "top"), flat(book, "top"))
        self.assertGreater(min(rings, plain), 20)

    def test_nets_go_without_dry_or_over(self):
        gone = 0
        for seed in range(120):
            maker = Knotter(seed, signs=2 + seed % 2, measure=(1000, 50)[seed % 2])
            book = maker.book(1 + seed % 3)
            made = maker.net(book, 1 + seed % 4, rooms=True)
            if net_wrong(book, made) is not None:
                continue
            net = Net(book, made)
            drive, paper = earliest(net), reasons(net)
            self.assertIsNone(earliest_judged(net, drive, paper))
            self.assertIsNone(earliest_judged(net, drive, read_paper(paper_text(paper))))
            self.assertEqual(read_paper(paper_text(drive)), drive)
            for k, line in enumerate(lanes_told(net, drive)):
                self.assertEqual(line[0], "least")
                self.assertLessEqual(line[1], made[1][k][5])
                self.assertTrue(lane_judged(net, drive, k, read_paper(paper_text(line))))
            run = NetRun(net, drive)
            kinds_of = {(instance.title, x): instance.kind_of[x] for instance in net.instances for x in instance.ins}
            for some in SlowNet(book, made).due(drive, 30):
                run.beat({door: True if kinds_of[door] == "truth" else 7 for door in some})
                gone += 1
            self.assertEqual(len(run), 30)
        self.assertGreater(gone, 900)

    def test_a_store_tells_what_one_begun_anew_tells(self):
        for seed in range(10):
            book = Grower(seed, rows=5, deep=3).book(3)
            modules = book.modules()
            name = modules[-1][0]
            beats = history(seed, book, name, 6)
            one, other = Store(), Store(modules)
            for module in modules:
                one.put(module)
            for store in (one, other):
                store.begin("r", name)
            for beat in beats:
                for wrong in (None, ("put", None), ("feed", "r", {}), ("drop", "zz")):
                    rows = [("feed", "r", beat), ("put", modules[0]), wrong]
                    with self.assertRaises(LoomError):
                        one.deeds(rows)
                self.assertEqual(one.feed("r", beat), other.feed("r", beat))
            self.assertEqual((one.run_of("r").state(), one.modules()), (other.run_of("r").state(), other.modules()))


class Lists(unittest.TestCase):
    def test_each_list_stands_at_one_place_alone_and_is_the_askers_own(self):
        texts = modules_text(Grower(3, rows=6, deep=4).book(3).modules())
        book = Book(read_modules(texts))
        name = book.modules()[-1][0]
        told = flat(book, name)
        maker = Knotter(4, signs=2)
        books = maker.book(2)
        net = Net(books, [made for made in [maker.net(books, 3, rooms=True) for _ in range(40)] if net_wrong(books, made) is None][0])
        run, store = Run(book, name), Store(book.modules())
        store.begin("r", name)
        for beat in history(1, book, name, 3):
            run.feed(beat)
            store.feed("r", beat)
        calls = [
            lambda: book.modules(), lambda: kinds(book, name), lambda: clocks(book, name), lambda: wants(book, name), lambda: order(book, name),
            lambda: face(book, name), lambda: flat(book, name), lambda: woven(told), lambda: gathered(told), lambda: fused(told, woven(told)),
            lambda: parts(book, name), lambda: run.flows(), lambda: run.state(), lambda: run.copy().state(), lambda: net.doors(), lambda: net.shape(),
            lambda: earliest(net), lambda: reasons(net), lambda: lanes_told(net, earliest(net)), lambda: NetRun(net, earliest(net)).lying(),
            lambda: store.modules(), lambda: store.faces(), lambda: store.log(), lambda: store.titles(), lambda: store.run_of("r").flows(),
            lambda: read_paper(paper_text([[], [], [{}]])), lambda: told_flat(told, history(1, book, name, 3)), lambda: doors_of(book, name),
        ]
        for call in calls:
            thing = call()
            self.assertTrue(holds_lists(thing, {}))
            before = repr(thing)
            spoiled(thing)
            self.assertEqual(repr(call()), before)

    def test_papers_of_refusals_are_the_askers_own(self):
        book = Book(read_modules("MODULE m (a) OUT (x)\nx = (y + a)\ny = (x + 1)"))
        for call in (face, flat, parts, Run, Parted):
            with self.assertRaises(NoFace) as caught:
                call(book, "m")
            self.assertEqual(len(caught.exception.paper[1]), 2)
            spoiled(caught.exception.paper)


if __name__ == "__main__":
    unittest.main()
