"""Clocks told as words, where the flows in their conditions go by beats alone."""

from clockloom.errors import NoFlow, TooLong
from clockloom.facing import faced_in, seen_in
from clockloom.shapes import flows_of
from clockloom.words import least_word, on, other_of

ALWAYS = ("", "1")


def _beats_word(e_of, x):
    """The least word of a beats flow; None of another flow."""
    turned = False
    e = e_of.get(x)
    while e is not None and e[0] != "beats":
        if e[0] == "not":
            turned = not turned
            e = e[1]
        if e[0] != "flow":
            return None
        e = e_of.get(e[1])
    if e is None:
        return None
    return other_of((e[1], e[2])) if turned else least_word((e[1], e[2]))


class Clocks:
    """The clocks of a module's flows as words, each row of conditions put together once."""

    def __init__(self, seen):
        self._conditions = seen.conditions
        self._e_of = {targets[0]: e for targets, e in seen.module[3]}
        self._words = {}
        self._told = {(): ALWAYS}

    def _beats_of(self, x):
        if x not in self._words:
            self._words[x] = _beats_word(self._e_of, x)
        return self._words[x]

    def told_word(self, x):
        """The clock of a flow as a word, None where it isn't told so."""
        conditions = self._conditions[x]
        if [c for c, _ in conditions if self._beats_of(c) is None]:
            return None
        for many in range(1, len(conditions) + 1):
            if conditions[:many] not in self._told:
                c, b = conditions[many - 1]
                word = self._beats_of(c)
                ahead = self._told[conditions[:many - 1]]
                self._told[conditions[:many]] = on(ahead, word if b else other_of(word))
        return self._told[conditions]


def clock_word(book, name, flow):
    """The clock of a flow as a word, None where it isn't told so."""
    seen = faced_in(book, name)[name]
    if flow not in flows_of(seen.module):
        raise NoFlow(flow)
    return Clocks(seen).told_word(flow)


def _words_of_doors(seen):
    if seen.face is None:
        return None
    told_clocks = Clocks(seen)
    told = {}
    for x in seen.ins + seen.outs:
        try:
            told[x] = told_clocks.told_word(x)
        except TooLong:
            return None
        if told[x] is None:
            return None
    return told


def door_words(book, name):
    """The words of the clocks of a module's ins and outs, by their names; None where it has
    no face, or one of them has no such word, or one that is too long."""
    if name not in book.words:
        book.words[name] = _words_of_doors(seen_in(book, name)[name])
    return book.words[name]
