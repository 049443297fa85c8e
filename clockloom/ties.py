"""What a module's rows tell of kinds: which places are tied, and which are told one."""

from clockloom.shapes import flows_of, name_in, places_below, walk

ARITHMETIC = ("sum", "less", "times")
TRUTHFUL = ("both", "either", "not")


class Ties:
    """The places that have kinds, to which each is tied, and what each is told to be."""

    def __init__(self, module):
        self.places = kinded(module)
        self.tied = {place: [] for place in self.places}
        self.told = {place: [] for place in self.places}

    def tie(self, one, other):
        """Ties two places."""
        self.tied[one].append(other)
        self.tied[other].append(one)

    def tell(self, place, kind):
        """Tells a place to be numbers or truths."""
        if kind not in self.told[place]:
            self.told[place].append(kind)


def kinded(module):
    """The places of a module that have kinds: its flows, then all others but calls."""
    others = [(k, path) for k, path, e in walk(module[3]) if e[0] != "call"]
    return flows_of(module) + others


def _tell_all(ties, some, kind):
    for place in some:
        ties.tell(place, kind)


def _tie_all(ties, place, some):
    for other in some:
        ties.tie(place, other)


def _by_name(ties, place, e):
    """What an expression tells of the flow that is named in it."""
    if e[0] == "flow":
        ties.tie(place, e[1])
    elif name_in(e) is not None:
        ties.tell(name_in(e), "truth")


def _by_word(ties, place, e, parts):
    """What an expression tells of itself and its parts."""
    word = e[0]
    if word == "num":
        ties.tell(place, "number")
    elif word in ("truth", "beats"):
        ties.tell(place, "truth")
    elif word in ARITHMETIC:
        _tell_all(ties, [place, *parts], "number")
    elif word in TRUTHFUL:
        _tell_all(ties, [place, *parts], "truth")
    elif word == "below":
        ties.tell(place, "truth")
        _tell_all(ties, parts, "number")
    elif word == "same":
        ties.tell(place, "truth")
        ties.tie(parts[0], parts[1])
    elif word == "pick":
        ties.tell(parts[0], "truth")
        _tie_all(ties, place, parts[1:])
    else:
        _tie_all(ties, place, parts)
        if word == "then":
            ties.tell(place, "number" if e[1][0] == "num" else "truth")


def _by_call(ties, some, kinds):
    """What a called module's kinds tell of the parts and targets of its call."""
    last = {}
    for place, kind in zip(some, kinds):
        if kind in ("number", "truth"):
            ties.tell(place, kind)
        elif kind in last:
            ties.tie(last[kind], place)
            last[kind] = place
        else:
            last[kind] = place


def ties_of(module, doors):
    """The Ties of a module; doors leads each called name to the kinds of its ins, then its outs."""
    ties = Ties(module)
    rows = module[3]
    for k, path, e in walk(rows):
        parts = places_below(k, path, e)
        targets = rows[k][0]
        if e[0] == "call":
            _by_call(ties, [*parts, *targets], doors[e[1]])
            continue
        if not path:
            ties.tie(targets[0], (k, path))
        _by_name(ties, (k, path), e)
        _by_word(ties, (k, path), e, parts)
    return ties
