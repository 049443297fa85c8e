"""The refusals: LoomError, and straight under it one class for each kind.

A refusal that has values keeps copies of them: they are what was handed in,
whatever becomes of that later.
"""

from clockloom.things import fresh


class LoomError(ValueError):
    """Any refusal."""


class NoBack(LoomError):
    """There is nothing so far back."""


class NoDrive(LoomError):
    """This is no drive of the net."""


class NoLane(LoomError):
    """There is no lane of this number."""


class NoLine(LoomError):
    """A desk has no such line."""


class NoMeasure(LoomError):
    """This is no measure."""


class NoPart(LoomError):
    """There is no part of this number."""


class NoTitle(LoomError):
    """The title is none, or is there, or isn't there."""


class NoWait(LoomError):
    """This instance doesn't wait without end."""


class NoWay(LoomError):
    """No way leads there."""


class NoWord(LoomError):
    """This is no word."""


class TooDeep(LoomError):
    """Too much lies within one another."""


class TooLong(LoomError):
    """What would be told is too long."""


class Dry(LoomError):
    """Nothing lies on a lane that is taken from."""

    def __init__(self, lane):
        self.lane = fresh(lane)


class NoBeat(LoomError):
    """Worths are handed in that make no beat."""

    def __init__(self, name):
        self.name = fresh(name)


class NoBook(LoomError):
    """These modules make no book."""

    def __init__(self, wrong):
        self.wrong = fresh(wrong)


class NoDeed(LoomError):
    """A row of deeds has something else in it."""

    def __init__(self, at):
        self.at = fresh(at)


class NoFace(LoomError):
    """The module has no face; the paper shows why."""

    def __init__(self, paper):
        self.paper = fresh(paper)


class NoFlow(LoomError):
    """There is no flow of this name."""

    def __init__(self, name):
        self.name = fresh(name)


class NoLoop(LoomError):
    """This is no right loop."""

    def __init__(self, wrong):
        self.wrong = fresh(wrong)


class NoModule(LoomError):
    """This is no module."""

    def __init__(self, wrong):
        self.wrong = fresh(wrong)


class NoName(LoomError):
    """The book has no module of this name."""

    def __init__(self, name):
        self.name = fresh(name)


class NoNet(LoomError):
    """This is no net."""

    def __init__(self, wrong):
        self.wrong = fresh(wrong)


class NoPlace(LoomError):
    """There is no such place."""

    def __init__(self, place):
        self.place = fresh(place)


class NoRoom(LoomError):
    """A lane has no room told."""

    def __init__(self, lane):
        self.lane = fresh(lane)


class NoState(LoomError):
    """A state leads where nothing is held, or holds what can't be there."""

    def __init__(self, at):
        self.at = fresh(at)


class NoText(LoomError):
    """A text isn't written as it should be."""

    def __init__(self, row, at):
        self.row = fresh(row)
        self.at = fresh(at)


class Over(LoomError):
    """A lane that is put on is full."""

    def __init__(self, lane):
        self.lane = fresh(lane)


class Twice(LoomError):
    """A name stands twice."""

    def __init__(self, name):
        self.name = fresh(name)
