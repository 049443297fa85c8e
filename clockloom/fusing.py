"""Ifs put together: loops with as few ifs as their tracks allow, and tracks that allow few."""

from clockloom.books import MEASURE
from clockloom.errors import NoLoop
from clockloom.flatfacts import cells_of, conditions_by_name
from clockloom.gathering import gathered_rows
from clockloom.loops import loop_judged
from clockloom.tracks import many_ifs, steps_of, track_by_rows, track_of


def fused(flat, loop, *, measure=MEASURE):
    """A right loop with the same cells and the same track, that has as few ifs as can be."""
    wrong = loop_judged(flat, loop, measure=measure)
    if wrong is not None:
        raise NoLoop(wrong)
    cells, steps = loop
    return (list(cells), steps_of(track_of(steps), conditions_by_name(flat)))


def if_count(loop):
    """How many ifs a loop has."""
    told = 0
    left = list(loop[1])
    while left:
        step = left.pop()
        if step[0] == "if":
            told += 1
            left.extend(step[2])
            left.extend(step[3])
    return told


def few_ifs(flat, track):
    """How few ifs a right loop with this track has."""
    return many_ifs(track, conditions_by_name(flat))


def gathered(flat, *, measure=MEASURE):
    """A right loop that has no more ifs than the woven one fused."""
    conditions_of = conditions_by_name(flat)
    track = track_by_rows(gathered_rows(flat[2]))
    plain = track_by_rows(flat[2])
    if many_ifs(plain, conditions_of) < many_ifs(track, conditions_of):
        track = plain
    return (cells_of(flat, measure), steps_of(track, conditions_of))
