"""What all that run a module stand on, made once for a book."""

from clockloom.flat import MOST_FLAT
from clockloom.flattening import flat_of
from clockloom.going import Plan
from clockloom.molds import molds_of
from clockloom.states import held_places, numbers_by_spots


class Ground:
    """A module made ready to be run; nothing changes it."""

    def __init__(self, book, name):
        flat = flat_of(book, name, MOST_FLAT)
        self.measure = book.measure()
        self.ins, self.outs, self.rows = flat
        self.plan = Plan(flat, self.measure)
        molds = molds_of(book, name)
        mold = molds[name]
        names = mold.names("", [x for x, _, _ in self.ins])
        self.spot_of = {x: self.plan.spot_of(names[mold.number_of[x]]) for x in mold.number_of}
        self.places = held_places(molds, name)
        self.number_of = numbers_by_spots(self.places)
        number_of = {x: number for number, x in enumerate(self.plan.cell_names)}
        # The plan's cells stand in the order of rows, those of a state in the order of places.
        self._numbers = [number_of[held.name] for held in self.places]

    def by_places(self, cells):
        """What the plan's cells hold, in the order of places."""
        return [cells[number] for number in self._numbers]

    def by_rows(self, held):
        """What the places hold, in the order of the plan's cells."""
        told = list(held)
        for number, worth in zip(self._numbers, held):
            told[number] = worth
        return tuple(told)


def ground_of(book, name):
    """The Ground of a module, refused as its flat one is."""
    if name not in book.grounds:
        book.grounds[name] = Ground(book, name)
    return book.grounds[name]
