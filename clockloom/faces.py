"""Faces: all that callers need to know of a module."""

from clockloom.facing import faced_in


def face(book, name):
    """The face of a module: the kinds and clocks of its ins and outs, and what the outs want."""
    return faced_in(book, name)[name].face
