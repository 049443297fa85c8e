"""Looms: one loop woven of a flat module."""

from clockloom.books import MEASURE
from clockloom.flatfacts import cells_of, conditions_by_name
from clockloom.tracks import steps_of, track_by_rows


def woven(flat, *, measure=MEASURE):
    """A right loop, its steps in the order of rows."""
    track = track_by_rows(flat[2])
    return (cells_of(flat, measure), steps_of(track, conditions_by_name(flat)))
