"""Clocks: at which beats each place of a module is there, as widely as can be."""

from clockloom.books import called_first
from clockloom.facing import clocks_paper, seen_among


def clocks(book, name):
    """The widest clocks of a module, or why it has none."""
    modules = called_first(book, name)
    return clocks_paper(modules[-1], seen_among(book, modules[:-1]))
