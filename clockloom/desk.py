"""A desk: a store that is told lines, and answers each with a text."""

from clockloom.asking import asked_of_module, asked_of_run, asked_of_store, judged
from clockloom.books import MEASURE
from clockloom.errors import NoLine
from clockloom.feedwords import beat_of, worths_text
from clockloom.papertexts import paper_text, read_paper
from clockloom.stores import Store
from clockloom.texts import read_module

# How many words stand in a line of each first word; put, feed and judge are looked at apart.
COUNTS = {
    "drop": 2, "begin": 3, "end": 2, "back": 1, "again": 1, "over": 2, "kinds": 2, "clocks": 2, "wants": 2,
    "order": 2, "face": 2, "flat": 2, "parts": 2, "loop": 2, "ifs": 2, "show": 2, "settle": 1, "faces": 1,
    "log": 1, "names": 1, "titles": 1, "flows": 2, "state": 2, "beats": 2,
}
JUDGED = ("kinds", "clocks", "order")


def _is_line(text, words):
    """Whether a text other than a put is a line, by its first word and its count of words."""
    if "\n" in text:
        return False
    if words[0] == "feed":
        return len(words) >= 2
    if words[0] == "judge":
        # All behind the third blank is the paper, one sign or more.
        return len(words) >= 4 and words[1] in JUDGED and " ".join(words[3:]) != ""
    return COUNTS.get(words[0]) == len(words)


class Desk:
    """A store, at first empty, that is told lines."""

    def __init__(self, *, measure=MEASURE):
        self._store = Store(measure=measure)

    def say(self, text):
        """Tells the desk a line, or a put with a module's text, and tells its answer."""
        if text.startswith("put\n"):
            self._store.put(read_module(text[4:]))
            return "ok"
        words = text.split(" ")
        if not _is_line(text, words):
            raise NoLine("a desk has no such line")
        if words[0] == "feed":
            return self._fed(words)
        if words[0] == "judge":
            paper = read_paper(" ".join(words[3:]))
            return judged(self._store.book(), words[1], words[2], paper)
        return self._done(words[0], words[1:])

    def _fed(self, words):
        ins, handed = self._store.ins_of(words[1]), beat_of(words)
        beat = {x: None for x in ins}
        beat.update(handed)
        return worths_text(self._store.feed(words[1], beat))

    def _done(self, word, things):
        """Does a deed, or tells what is asked."""
        store = self._store
        if word == "drop":
            store.drop(things[0])
        elif word == "begin":
            store.begin(things[0], things[1])
        elif word == "end":
            store.end(things[0])
        elif word == "back":
            store.back()
        elif word == "again":
            store.again()
        elif word == "over":
            return paper_text(store.over(things[0]))
        elif not things:
            return asked_of_store(store, word)
        elif word in ("flows", "state", "beats"):
            return asked_of_run(store.run_of(things[0]), word)
        else:
            return asked_of_module(store.book(), word, things[0])
        return "ok"
