"""Deeds made ready to be done: names, atoms and cells by numbers, each word by a function.

A function gets the list of all worths and the numbers of those that it needs, its own one
first. What is not there is None.
"""


def _sum(worths, spots):
    worths[spots[0]] = (worths[spots[1]] + worths[spots[2]]) % worths[0]


def _less(worths, spots):
    worths[spots[0]] = (worths[spots[1]] - worths[spots[2]]) % worths[0]


def _times(worths, spots):
    worths[spots[0]] = worths[spots[1]] * worths[spots[2]] % worths[0]


def _below(worths, spots):
    worths[spots[0]] = worths[spots[1]] < worths[spots[2]]


def _same(worths, spots):
    worths[spots[0]] = worths[spots[1]] == worths[spots[2]]


def _both(worths, spots):
    worths[spots[0]] = worths[spots[1]] and worths[spots[2]]


def _either(worths, spots):
    worths[spots[0]] = worths[spots[1]] or worths[spots[2]]


def _not(worths, spots):
    worths[spots[0]] = not worths[spots[1]]


def _choose(worths, spots):
    worths[spots[0]] = worths[spots[2]] if worths[spots[1]] else worths[spots[3]]


def move(worths, spots):
    """What stands at one number comes to another one."""
    worths[spots[0]] = worths[spots[1]]


def _sign(worths, spots):
    """Whether 1 stands in a word at the place that its cell holds."""
    place = worths[spots[1]]
    head, again = worths[spots[2]]
    if place < len(head):
        worths[spots[0]] = head[place] == "1"
    else:
        worths[spots[0]] = again[(place - len(head)) % len(again)] == "1"


def go_on(worths, spots):
    """A cell goes on to the next sign of a word, behind the last one to the again's first one."""
    head, again = worths[spots[1]]
    place = worths[spots[0]] + 1
    worths[spots[0]] = len(head) if place == len(head) + len(again) else place


# What is done, and at which places of the deed's tuple its atoms stand, in the order of spots.
ACTIONS = {
    "sum": _sum, "less": _less, "times": _times, "below": _below, "same": _same, "both": _both,
    "either": _either, "not": _not, "pick": _choose, "merge": _choose,
    "num": move, "truth": move, "flow": move, "cell": move, "sign": _sign,
}
ATOM_SPOTS = {
    "sum": (1, 2), "less": (1, 2), "times": (1, 2), "below": (1, 2), "same": (1, 2), "both": (1, 2),
    "either": (1, 2), "not": (1,), "pick": (1, 2, 3), "merge": (2, 3),
}


def first_worth(atom, measure):
    """The worth of an atom that is no flow."""
    if atom[0] == "num":
        return atom[1] % measure
    return atom[1]


class Spots:
    """The numbers at which worths stand in a list: the measure, constants, flows, cells and words."""

    def __init__(self, measure):
        self.begin = [measure]
        self._flow_spots = {}
        self._cell_spots = {}
        self._others = {}

    def _new(self, table, key, worth):
        if key not in table:
            table[key] = len(self.begin)
            self.begin.append(worth)
        return table[key]

    def flow(self, x):
        """The number of a flow, by its flat name."""
        return self._new(self._flow_spots, x, None)

    def atom(self, atom):
        """The number of an atom."""
        if atom[0] == "flow":
            return self._new(self._flow_spots, atom[1], None)
        return self._new(self._others, atom, first_worth(atom, self.begin[0]))

    def cell(self, x):
        """The number of the cell of a flow."""
        return self._new(self._cell_spots, x, None)

    def word(self, beats):
        """The number of the word of a "beats"."""
        return self._new(self._others, beats, (beats[1], beats[2]))

    def of_deed(self, x, deed, row_deed):
        """The numbers for the deed that sets x, by a row whose deed is the last one."""
        word = deed[0]
        told = [self.flow(x)]
        if word in ATOM_SPOTS:
            if word == "merge":
                told.append(self.flow(deed[1]))
            for spot in ATOM_SPOTS[word]:
                told.append(self.atom(deed[spot]))
        elif word == "cell":
            told.append(self.cell(x))
        elif word == "sign":
            told.extend([self.cell(x), self.word(row_deed)])
        else:
            told.append(self.atom(deed))
        return told

    def worths(self, cells, held, ins, handed):
        """All worths at the begin of a beat: what cells hold, what is handed in, else what is ever so."""
        told = list(self.begin)
        for spot, worth in zip(cells, held):
            told[spot] = worth
        for x, spot in ins:
            told[spot] = handed[x]
        return told


def set_deed(x, deed):
    """The deed in a loop's set of a row: that of the row, but of a then its cell, of a when its
    atom, of a beats its sign."""
    if deed[0] == "then":
        return ("cell", x)
    if deed[0] == "when":
        return deed[1]
    if deed[0] == "beats":
        return ("sign", x)
    return deed
