"""Places linked by facts of clocks: the lots of places that must be there at the same beats."""


class Links:
    """The places of a module, which facts make the same, or put over a flow.

    A label is a tuple (c, b): what is over the flow c where it is b. Places straight
    over the same label are there at the same beats, too.
    """

    def __init__(self, places, facts):
        self.places = places
        self.sames = {place: [] for place in places}
        self.labels = {place: [] for place in places}
        self.below = {}
        self.row_of = {}
        for fact, k in facts:
            if fact not in self.row_of:
                self.row_of[fact] = k
                self._link(fact)

    def _link(self, fact):
        if fact[0] == "same":
            self.sames[fact[1]].append(fact[2])
            self.sames[fact[2]].append(fact[1])
            return
        label = (fact[2], fact[3])
        self.labels[fact[1]].append(label)
        if label not in self.below:
            self.below[label] = []
        self.below[label].append(fact[1])

    def row_of_same(self, one, other):
        """The row that makes two places the same, None where none does so straight."""
        k = self.row_of.get(("same", one, other))
        if k is None:
            k = self.row_of.get(("same", other, one))
        return k

    def reached(self, begin):
        """All places of one's lot, each led to the one ahead on a shortest way from that one."""
        ahead = {begin: None}
        queue = [begin]
        done = {}
        at = 0
        while at < len(queue):
            place = queue[at]
            at += 1
            beside = list(self.sames[place])
            for label in self.labels[place]:
                if label not in done:
                    done[label] = True
                    beside.extend(self.below[label])
            for other in beside:
                if other not in ahead:
                    ahead[other] = place
                    queue.append(other)
        return ahead

    def lots(self):
        """The lots, each a list of places, in the order of their first ones."""
        told = []
        known = {}
        for place in self.places:
            if place not in known:
                lot = list(self.reached(place))
                for other in lot:
                    known[other] = True
                told.append(lot)
        return told

    def labels_in(self, lot):
        """The labels over which places of a lot stand straight, each once."""
        told = {}
        for place in lot:
            for label in self.labels[place]:
                told[label] = True
        return list(told)
