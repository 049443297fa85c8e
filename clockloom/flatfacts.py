"""What a flat module tells of its rows, and of the loops that it may have."""

from clockloom.deeds import first_worth
from clockloom.shapes import NAME_SPOTS, PART_SPOTS


def conditions_by_name(flat):
    """The conditions of each in and of each row, by their flat names."""
    ins, _, rows = flat
    told = {x: conditions for x, _, conditions in ins}
    for x, _, conditions in rows:
        told[x] = conditions
    return told


def cells_of(flat, measure):
    """A tuple (x, k) for each cell of a loop, in the order of rows."""
    told = []
    for x, deed, _ in flat[2]:
        if deed[0] == "then":
            told.append((x, first_worth(deed[1], measure)))
        elif deed[0] == "beats":
            told.append((x, 0))
    return told


def names_in_deed(deed):
    """The flat names of flows that stand in a deed."""
    told = [deed[spot][1] for spot in PART_SPOTS.get(deed[0], ()) if deed[spot][0] == "flow"]
    if deed[0] in NAME_SPOTS:
        told.append(deed[NAME_SPOTS[deed[0]]])
    return told
