"""Worths, and what may be fed to a flat module at a beat."""

from clockloom.errors import NoBeat
from clockloom.things import is_whole


def is_worth(kind, thing, measure):
    """Whether a thing is a worth of a kind, "number" or "truth"."""
    if kind == "truth":
        return isinstance(thing, bool)
    return is_whole(thing) and 0 <= thing < measure


def _holds(worth, truth):
    # A number is no truth: 1 is not as a condition tells.
    return isinstance(worth, bool) and worth == truth


def check_beat(ins, handed, measure):
    """Refuses a dict that doesn't lead just these ins, as a flat module tells them, to worths."""
    for x, kind, conditions in ins:
        if x not in handed:
            raise NoBeat(x)
        there = all([_holds(handed.get(c), b) for c, b in conditions])
        worth = handed[x]
        if not (is_worth(kind, worth, measure) if there else worth is None):
            raise NoBeat(x)
    known = {x: True for x, _, _ in ins}
    others = [x for x in handed if x not in known]
    if others:
        raise NoBeat(min(others))
