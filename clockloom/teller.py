"""The plain teller: a module run beat by beat."""

from clockloom.errors import NoBack
from clockloom.feeding import check_beat
from clockloom.flat import MOST_FLAT
from clockloom.flattening import flat_of
from clockloom.going import Plan
from clockloom.shapes import flows_of
from clockloom.states import held_places, numbers_by_spots, worths_with
from clockloom.within import Within, flat_name_of


class Ground:
    """What all runs of a module stand on, and none changes."""

    def __init__(self, book, name):
        flat = flat_of(book, name, MOST_FLAT)
        top = Within(book.seen, name)
        self.measure = book.measure()
        self.ins = flat[0]
        self.plan = Plan(flat, self.measure)
        self.flows = flows_of(top.module)
        self.spots = [self.plan.spot_of(flat_name_of(top, x)) for x in self.flows]
        self.places = held_places(top)
        self.number_of = numbers_by_spots(self.places)
        number_of = {x: number for number, x in enumerate(self.plan.cell_names)}
        # The plan's cells stand in the order of rows, those of a state in the order of places.
        self.numbers = [number_of[held.name] for held in self.places]

    def by_places(self, cells):
        """What the plan's cells hold, in the order of places."""
        return [cells[number] for number in self.numbers]

    def by_rows(self, held):
        """What the places hold, in the order of the plan's cells."""
        told = list(held)
        for number, worth in zip(self.numbers, held):
            told[number] = worth
        return tuple(told)


def _ground_of(book, name):
    if name not in book.grounds:
        book.grounds[name] = Ground(book, name)
    return book.grounds[name]


class Run:
    """A module that is fed beat by beat."""

    def __init__(self, book, name, *, state=()):
        ground = _ground_of(book, name)
        begins = ground.by_places(ground.plan.cell_begins)
        held = worths_with(state, ground.places, ground.number_of, begins, ground.measure)
        self._book = book
        self._name = name
        self._ground = ground
        self._cells = ground.by_rows(held)
        self._worths = []
        self._ahead = []

    def feed(self, ins):
        """Makes a beat and tells a dict of the outs."""
        ground = self._ground
        check_beat(ground.ins, ins, ground.measure)
        worths, cells = ground.plan.beat(self._cells, ins)
        self._ahead.append((self._cells, self._worths))
        self._cells = cells
        self._worths = [worths[spot] for spot in ground.spots]
        return ground.plan.told_outs(worths)

    def flows(self):
        """A tuple (flow, worth or None) for each flow, at the last beat."""
        return [(x, worth) for x, worth in zip(self._ground.flows, self._worths)]

    def back(self, many=1):
        """Takes back so many last beats."""
        if not 0 <= many <= len(self._ahead):
            raise NoBack("so many beats were not made")
        if many:
            self._cells, self._worths = self._ahead[-many]
            del self._ahead[-many:]

    def copy(self):
        """Another Run that stands as this one."""
        told = Run(self._book, self._name)
        told._cells = self._cells
        told._worths = self._worths
        told._ahead = list(self._ahead)
        return told

    def state(self):
        """A tuple (way, place, worth) for each place that holds something."""
        ground = self._ground
        return [
            (held.way, held.place, worth)
            for held, worth in zip(ground.places, ground.by_places(self._cells))
        ]

    def __len__(self):
        return len(self._ahead)
