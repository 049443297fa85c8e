"""States: what the "then"s and "beats" of a module, and of all that it calls, hold."""

from clockloom.errors import NoState
from clockloom.feeding import is_worth
from clockloom.things import is_whole
from clockloom.trees import is_spot


class Held:
    """A place that holds something: the way to it, its flat name, and its expression."""

    def __init__(self, way, place, name, e):
        self.way = way
        self.place = place
        self.name = name
        self.e = e

    def holds(self):
        """What the place holds, by a word: "beats", or for a "then" the word of its k."""
        return "beats" if self.e[0] == "beats" else self.e[1][0]

    def may_hold(self, worth, measure):
        """Whether a thing may be what the place holds."""
        if self.e[0] == "beats":
            return is_whole(worth) and worth >= 0
        return is_worth("truth" if self.e[1][0] == "truth" else "number", worth, measure)


def held_places(molds, name, way=(), prefix=""):
    """Each Held of a module by its molds, row by row, those of a called module behind the row's own."""
    mold = molds[name]
    # No name of an in holds anything.
    names = mold.names(prefix, ["" for _ in mold.module[1]])
    told = []
    for k, (_, call) in enumerate(mold.rows):
        for place, at, e in mold.held[k]:
            told.append(Held(way, place, names[at], e))
        if call is not None:
            told.extend(held_places(molds, call.name, (*way, k), prefix + call.tail))
    return told


def _is_by_form(thing):
    if not isinstance(thing, tuple) or len(thing) != 3 or not isinstance(thing[0], tuple):
        return False
    return all([is_whole(k) for k in thing[0]]) and is_spot(thing[1])


def numbers_by_spots(places):
    """The number of each of some held places, by its way and its place."""
    return {(held.way, held.place): number for number, held in enumerate(places)}


def worths_with(state, places, number_of, worths, measure):
    """What held places hold where a state tells of some of them, by the worths of all and their numbers."""
    told = list(worths)
    ahead = {}
    for at, thing in enumerate(state):
        if not _is_by_form(thing):
            raise NoState(at)
        number = number_of.get((thing[0], thing[1]))
        if number is None or number in ahead or not places[number].may_hold(thing[2], measure):
            raise NoState(at)
        ahead[number] = True
        told[number] = thing[2]
    return told
