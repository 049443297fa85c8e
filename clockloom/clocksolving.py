"""The widest clocks of linked places, or forced lines that show why there are none."""


class Lines:
    """Lines that are forced by rows, each fact told once."""

    def __init__(self, links):
        self._links = links
        self._lines = []
        self._numbers = {}

    def with_clash(self, clash):
        """The list of the lines with the clash behind them."""
        return [*self._lines, clash]

    def _number(self, fact, reason):
        if fact not in self._numbers:
            self._numbers[fact] = len(self._lines)
            self._lines.append((fact, reason))
        return self._numbers[fact]

    def _straight_over(self, place, label):
        fact = ("over", place, label[0], label[1])
        return self._number(fact, ("row", self._links.row_of[fact]))

    def _same(self, one, other):
        """The line that two neighbours on a way are the same."""
        fact = ("same", one, other)
        k = self._links.row_of_same(one, other)
        if k is not None:
            return self._number(fact, ("row", k))
        label = [some for some in self._links.labels[one] if some in self._links.labels[other]][0]
        i = self._straight_over(one, label)
        j = self._straight_over(other, label)
        return self._number(fact, ("join", i, j))

    def line_over(self, way, label):
        """The line that the first place of a way is over the label, the last one being so straight."""
        line = self._straight_over(way[-1], label)
        for at in range(len(way) - 2, -1, -1):
            same = self._same(way[at], way[at + 1])
            fact = ("over", way[at], label[0], label[1])
            line = self._number(fact, ("carry", same, line))
        return line


def _way_to_label(links, begin, labels):
    """A shortest way from a place to one that stands straight over one of some labels, and that label."""
    ahead = links.reached(begin)
    for place in ahead:
        found = [label for label in links.labels[place] if label in labels]
        if found:
            way = [place]
            while way[-1] != begin:
                way.append(ahead[way[-1]])
            return (way[::-1], found[0])
    return ([], None)


def _two_clash(links, lots):
    """The lines of a lot that stands over two unlike labels, None where there is no such lot."""
    for lot in lots:
        labels = links.labels_in(lot)
        if len(labels) > 1:
            begin = links.below[labels[0]][0]
            way, label = _way_to_label(links, begin, labels[1:])
            lines = Lines(links)
            i = lines.line_over([begin], labels[0])
            j = lines.line_over(way, label)
            return lines.with_clash(("two", i, j))
    return None


def _ring_of_lots(lots, number_of, label_of):
    """The numbers of lots each of which stands over a flow of the next one, the last of the first."""
    safe = {}
    for begin in range(len(lots)):
        way = {}
        number = begin
        while number is not None and number not in safe:
            if number in way:
                return list(way)[way[number]:]
            way[number] = len(way)
            label = label_of[number]
            number = None if label is None else number_of[label[0]]
        safe.update(way)
    return None


def _within_clash(links, ring, label_of):
    """The lines of a ring of lots."""
    lines = Lines(links)
    some = []
    ahead = label_of[ring[-1]][0]
    for number in ring:
        label = label_of[number]
        way, _ = _way_to_label(links, ahead, [label])
        some.append(lines.line_over(way, label))
        ahead = label[0]
    return lines.with_clash(("within", some))


def _clocks_of_lots(label_of, number_of):
    """For each lot the lot of its root and its conditions; none stands over itself."""
    told = []
    for begin in range(len(label_of)):
        conditions = []
        number = begin
        while label_of[number] is not None:
            conditions.append(label_of[number])
            number = number_of[label_of[number][0]]
        told.append((number, tuple(conditions[::-1])))
    return told


def _table(links, clocks, number_of):
    roots = {}
    table = []
    for place in links.places:
        lot, conditions = clocks[number_of[place]]
        if lot not in roots:
            roots[lot] = len(roots)
        table.append((place, (roots[lot], conditions)))
    return table


def solved(links):
    """("clocks", table), the widest, or ("clash", lines)."""
    lots = links.lots()
    lines = _two_clash(links, lots)
    if lines is not None:
        return ("clash", lines)
    number_of = {}
    label_of = []
    for number, lot in enumerate(lots):
        labels = links.labels_in(lot)
        label_of.append(labels[0] if labels else None)
        for place in lot:
            number_of[place] = number
    ring = _ring_of_lots(lots, number_of, label_of)
    if ring is not None:
        return ("clash", _within_clash(links, ring, label_of))
    return ("clocks", _table(links, _clocks_of_lots(label_of, number_of), number_of))
