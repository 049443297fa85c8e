"""Clocks: at which beats each place of a module is there, as widely as can be."""

from clockloom.books import called_first
from clockloom.facing import all_seen, clocks_paper


def clocks(book, name):
    """The widest clocks of a module, or why it has none."""
    modules = called_first(book, name)
    return clocks_paper(modules[-1], all_seen(modules[:-1]))
