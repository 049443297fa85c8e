"""The cells that a loop of a flat module has."""

from clockloom.deeds import first_worth


def cells_of(flat, measure):
    """A tuple (x, k) for each cell, in the order of rows."""
    told = []
    for x, deed, _ in flat[2]:
        if deed[0] == "then":
            told.append((x, first_worth(deed[1], measure)))
        elif deed[0] == "beats":
            told.append((x, 0))
    return told
