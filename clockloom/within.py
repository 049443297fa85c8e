"""Modules seen by ways: a module within the calls that lead to it, and how its flows are named flat."""

from clockloom.shapes import calls_of


def place_text(k, path):
    """A place as it stands in a flat name."""
    return "-".join([str(number) for number in (k, *path)])


class Within:
    """A module seen by a way; those that it calls are made when they are asked for."""

    def __init__(self, seen, name, above=None, row=None):
        self.seen = seen
        self.module = seen[name].module
        self.conditions = seen[name].conditions
        self.above = above
        self.way = () if above is None else (*above.way, row)
        self.prefix = "".join([f"{k}." for k in self.way])
        self._below = {}
        self._stands = self._of_ins()
        self._call_of = {}
        for k, targets, call in calls_of(self.module):
            for number, x in enumerate(targets):
                self._call_of[x] = (k, seen[call[1]].outs[number])

    def _of_ins(self):
        """The caller's flow that stands for each in, where its part is one."""
        if self.above is None:
            return {}
        parts = self.above.module[3][self.way[-1]][1][2]
        return {x: part[1] for x, part in zip(self.module[1], parts) if part[0] == "flow"}

    def below(self, k):
        """The module that row k calls, seen by the way with k behind."""
        if k not in self._below:
            self._below[k] = Within(self.seen, self.module[3][k][1][1], self, k)
        return self._below[k]

    def calls(self, k):
        """Whether there is a row k that is a call."""
        return 0 <= k < len(self.module[3]) and self.module[3][k][1][0] == "call"

    def flow_below(self, x):
        """(k, out) for the target of a call in row k, None for another flow."""
        return self._call_of.get(x)

    def flow_above(self, x):
        """The caller's flow that is the part for an in, None for another flow."""
        return self._stands.get(x)


def flat_name_of(within, x):
    """The flat name of a flow, seen by a way: that of the flow for which it stands, down or up."""
    while True:
        below = within.flow_below(x)
        above = within.flow_above(x)
        if below is not None:
            within = within.below(below[0])
            x = below[1]
        elif above is not None:
            within = within.above
            x = above
        else:
            return within.prefix + x


def made_name(within, k, path):
    """The flat name of the row that an expression makes, its place being (k, path)."""
    targets, whole = within.module[3][k]
    if not path:
        return within.prefix + targets[0]
    if whole[0] == "call" and len(path) == 1:
        below = within.below(k)
        return below.prefix + below.module[1][path[0]]
    return within.prefix + place_text(k, path)
