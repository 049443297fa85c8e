"""Faces: all that callers need to know of a module."""

from clockloom.books import called_first
from clockloom.errors import NoFace
from clockloom.facing import all_seen


def face(book, name):
    """The face of a module: the kinds and clocks of its ins and outs, and what the outs want."""
    seen = all_seen(called_first(book, name))[name]
    if seen.face is None:
        raise NoFace(seen.paper)
    return seen.face
