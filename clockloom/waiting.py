"""The rows of a flat module, and for which of the others each of them waits."""

from clockloom.flatfacts import names_in_deed


def asked_by(row):
    """The flat names that must stand ahead of a row."""
    _, deed, conditions = row
    names = [] if deed[0] == "then" else names_in_deed(deed)
    # The last condition's flow stands at all those ahead of it, so it is behind their flows itself.
    return names + [c for c, _ in conditions[-1:]]


class Waiting:
    """Rows by their numbers, and for how many of those that they ask for each of them waits."""

    def __init__(self, rows):
        number_of = {row[0]: number for number, row in enumerate(rows)}
        asked = [[number_of[x] for x in asked_by(row) if x in number_of] for row in rows]
        self._waits = [len(numbers) for numbers in asked]
        self._behind = [[] for _ in rows]
        for number, numbers in enumerate(asked):
            for ahead in numbers:
                self._behind[ahead].append(number)

    def first_ones(self):
        """The numbers of the rows that wait for none."""
        return [number for number, many in enumerate(self._waits) if many == 0]

    def behind(self, number):
        """The numbers of the rows that wait for none any more, once that of this number is told."""
        told = []
        for other in self._behind[number]:
            self._waits[other] -= 1
            if self._waits[other] == 0:
                told.append(other)
        return told
