"""States: what the "then"s and "beats" of a module, and of all that it calls, hold."""

from clockloom.errors import NoState
from clockloom.feeding import is_worth
from clockloom.shapes import walk
from clockloom.things import is_whole
from clockloom.trees import is_spot
from clockloom.within import made_name


class Held:
    """A place that holds something: the way to it, its flat name, and its expression."""

    def __init__(self, within, place, e):
        self.way = within.way
        self.place = place
        self.name = made_name(within, place[0], place[1])
        self.e = e

    def holds(self):
        """What the place holds, by a word: "beats", or for a "then" the word of its k."""
        return "beats" if self.e[0] == "beats" else self.e[1][0]

    def may_hold(self, worth, measure):
        """Whether a thing may be what the place holds."""
        if self.e[0] == "beats":
            return is_whole(worth) and worth >= 0
        return is_worth("truth" if self.e[1][0] == "truth" else "number", worth, measure)


def held_places(within):
    """Each Held of a module, row by row, those of a called module behind the row's own."""
    told = []
    for k, row in enumerate(within.module[3]):
        for _, path, e in walk([row]):
            if e[0] in ("then", "beats"):
                told.append(Held(within, (k, path), e))
        if row[1][0] == "call":
            told.extend(held_places(within.below(k)))
    return told


def _is_by_form(thing):
    if not isinstance(thing, tuple) or len(thing) != 3 or not isinstance(thing[0], tuple):
        return False
    return all([is_whole(k) for k in thing[0]]) and is_spot(thing[1])


def numbers_by_spots(places):
    """The number of each of some held places, by its way and its place."""
    return {(held.way, held.place): number for number, held in enumerate(places)}


def worths_with(state, places, number_of, worths, measure):
    """What held places hold where a state tells of some of them, by the worths of all and their numbers."""
    told = list(worths)
    ahead = {}
    for at, thing in enumerate(state):
        if not _is_by_form(thing):
            raise NoState(at)
        number = number_of.get((thing[0], thing[1]))
        if number is None or number in ahead or not places[number].may_hold(thing[2], measure):
            raise NoState(at)
        ahead[number] = True
        told[number] = thing[2]
    return told
