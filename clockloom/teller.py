"""The plain teller: a module run beat by beat."""

from clockloom.errors import NoBack
from clockloom.feeding import check_beat
from clockloom.grounds import ground_of
from clockloom.states import worths_with


class Run:
    """A module that is fed beat by beat."""

    def __init__(self, book, name, *, state=()):
        ground = ground_of(book, name)
        begins = ground.by_places(ground.plan.cell_begins)
        held = worths_with(state, ground.places, ground.number_of, begins, ground.measure)
        self._book = book
        self._name = name
        self._ground = ground
        self._cells = ground.by_rows(held)
        self._worths = []
        self._ahead = []

    def feed(self, ins):
        """Makes a beat and tells a dict of the outs."""
        ground = self._ground
        check_beat(ground.ins, ins, ground.measure)
        worths, cells = ground.plan.beat(self._cells, ins)
        self._ahead.append((self._cells, self._worths))
        self._cells = cells
        self._worths = [worths[ground.spot_of[x]] for x in ground.spot_of]
        return ground.plan.told_outs(worths)

    def flows(self):
        """A tuple (flow, worth or None) for each flow, at the last beat."""
        return [(x, worth) for x, worth in zip(list(self._ground.spot_of), self._worths)]

    def back(self, many=1):
        """Takes back so many last beats."""
        if not 0 <= many <= len(self._ahead):
            raise NoBack("so many beats were not made")
        if many:
            self._cells, self._worths = self._ahead[-many]
            del self._ahead[-many:]

    def copy(self):
        """Another Run that stands as this one."""
        told = Run(self._book, self._name)
        told._cells = self._cells
        told._worths = self._worths
        told._ahead = list(self._ahead)
        return told

    def gone_over(self, book):
        """A Run of the module of this name of another book, begun with what leads to its like there,
        and a tuple (way, place) for each thing carried so."""
        ground = ground_of(book, self._name)
        carried = []
        for held, (way, place, worth) in zip(self._ground.places, self.state()):
            number = ground.number_of.get((way, place))
            if number is not None and ground.places[number].holds() == held.holds():
                carried.append((way, place, worth))
        return (Run(book, self._name, state=carried), [(way, place) for way, place, _ in carried])

    def ins(self):
        """The tuple of the module's ins."""
        return tuple([x for x, _, _ in self._ground.ins])

    def state(self):
        """A tuple (way, place, worth) for each place that holds something."""
        ground = self._ground
        return [
            (held.way, held.place, worth)
            for held, worth in zip(ground.places, ground.by_places(self._cells))
        ]

    def __len__(self):
        return len(self._ahead)
