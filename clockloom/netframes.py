"""Nets taken apart: their instances and lanes, and the kinds that lanes give to lots."""

from math import lcm

from clockloom.clockwords import door_words
from clockloom.facing import seen_in


class Lots:
    """Lots of instances, put together by lanes; "number" and "truth" stand for themselves."""

    def __init__(self):
        self._lead = {}

    def of(self, lot):
        """What stands for all those that are put together with a lot: a kind, where one does."""
        while lot in self._lead:
            lot = self._lead[lot]
        return lot

    def tie(self, one, other):
        """Puts two together, and tells whether that may be."""
        one = self.of(one)
        other = self.of(other)
        if one == other:
            return True
        if isinstance(one, str) and isinstance(other, str):
            return False
        if isinstance(one, str):
            one, other = other, one
        self._lead[one] = other
        return True

    def tie_lane(self, giver, taker, lane):
        """Puts together what a lane between two instances makes one, and tells whether that may be."""
        out = giver.lot_of[lane[1]]
        kinds = ["truth" if isinstance(worth, bool) else "number" for worth in lane[4]]
        return all([self.tie(out, other) for other in [taker.lot_of[lane[3]], *kinds]])


class Instance:
    """A module by a title, with the words of its ins' and outs' clocks.

    takes and puts are tuples (lane's number, word): the lanes from which it takes, on which it
    puts. Its words go on alike from two numbers of steps where these are no less than head and
    go into round as often.
    """

    def __init__(self, book, number, title, name):
        seen = seen_in(book, name)[name]
        self.title = title
        self.name = name
        self.ins = seen.ins
        self.outs = seen.outs
        self.words = door_words(book, name)
        self.lot_of = {
            x: kind if isinstance(kind, str) else (number, kind)
            for x, kind in zip(seen.ins + seen.outs, seen.face[0])
        }
        self.kind_of = {}
        self.lane_of = {}
        self.takes = []
        self.puts = []
        self.head = 0
        self.round = 1
        for x in self.words:
            self.head = max(self.head, len(self.words[x][0]))
            self.round = lcm(self.round, len(self.words[x][1]))

    def phase(self, step):
        """A number that is the same of two steps from which on the words go on alike, of no others."""
        if step < self.head:
            return step
        return self.head + (step - self.head) % self.round


class Lane:
    """A lane: the numbers of both ends' instances, the out, and the words of the out's and the in's clocks."""

    def __init__(self, giver, out, taker, first, room, put_word, take_word):
        self.giver = giver
        self.out = out
        self.taker = taker
        self.first = first
        self.room = room
        self.put_word = put_word
        self.take_word = take_word


def instances_of(book, net):
    """The Instances of a net."""
    return [Instance(book, number, title, name) for number, (title, name) in enumerate(net[0])]


def lanes_of(instances, net):
    """The Lanes of a net; its Instances come to know them."""
    number_of = {instance.title: number for number, instance in enumerate(instances)}
    lots = Lots()
    told = []
    for k, lane in enumerate(net[1]):
        giver = instances[number_of[lane[0]]]
        taker = instances[number_of[lane[2]]]
        lots.tie_lane(giver, taker, lane)
        put_word = giver.words[lane[1]]
        take_word = taker.words[lane[3]]
        giver.puts.append((k, put_word))
        taker.takes.append((k, take_word))
        taker.lane_of[lane[3]] = k
        ends = (number_of[lane[0]], lane[1], number_of[lane[2]])
        told.append(Lane(ends[0], ends[1], ends[2], lane[4], lane[5], put_word, take_word))
    for instance in instances:
        for x in instance.ins:
            instance.kind_of[x] = "truth" if lots.of(instance.lot_of[x]) == "truth" else "number"
    return told
