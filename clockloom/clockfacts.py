"""What a module's rows tell of clocks: which places are the same, and which stand over which.

Called modules are given as a dict from their names to what is Seen of them from outside.
"""

from clockloom.shapes import calls_of, flows_of, places_below, walk


class Seen:
    """All that is inferred of a module.

    Each of these is None where what is ahead of it goes wrong: door_kinds are those of the ins
    and outs, conditions leads each place to those of its clock, wants and order are as 19 tells,
    the face is what callers see. The paper tells why there is no face.
    """

    def __init__(self, module):
        self.module = module
        self.ins = module[1]
        self.outs = module[2]
        self.door_kinds = None
        self.conditions = None
        self.wants = None
        self.order = None
        self.face = None
        self.paper = None


def clocked(module):
    """The places of a module that have clocks: its flows, then all others, calls too."""
    return flows_of(module) + [(k, path) for k, path, _ in walk(module[3])]


def first_faceless(module, seen):
    """The module called in the least row of those that have no face, or None."""
    for _, _, call in calls_of(module):
        if seen[call[1]].face is None:
            return call[1]
    return None


def first_not_plain(module, seen):
    """(k, i) of the first part of a call that must be a flow and is none, or None."""
    for k, _, call in calls_of(module):
        below = seen[call[1]]
        asked = {clock[-1][0]: True for clock in below.face[1] if clock}
        for i, x in enumerate(below.ins):
            if x in asked and call[2][i][0] != "flow":
                return (k, i)
    return None


def _by_word(place, e, parts):
    """The facts that an expression other than a call tells."""
    word = e[0]
    if word == "flow":
        return [("same", place, e[1])]
    if word == "when":
        return [("same", parts[0], e[2]), ("over", place, e[2], e[3])]
    if word == "merge":
        x = e[1]
        return [("same", place, x), ("over", parts[0], x, True), ("over", parts[1], x, False)]
    return [("same", place, part) for part in parts]


def stand_ins(call, targets, below):
    """The caller's flow that stands for each out, and for each in whose part is a flow."""
    flow_of = {x: target for x, target in zip(below.outs, targets)}
    for x, part in zip(below.ins, call[2]):
        if part[0] == "flow":
            flow_of[x] = part[1]
    return flow_of


def _by_call(place, call, targets, below):
    """The facts that a call tells."""
    flow_of = stand_ins(call, targets, below)
    facts = []
    ends = places_below(place[0], place[1], call) + list(targets)
    for end, clock in zip(ends, below.face[1]):
        if clock:
            x, truth = clock[-1]
            facts.append(("over", end, flow_of[x], truth))
        else:
            facts.append(("same", end, place))
    return facts


def facts_of(module, seen):
    """A tuple (fact, k) for each fact that row k tells, of a module all of whose calls fit."""
    rows = module[3]
    facts = []
    for k, path, e in walk(rows):
        place = (k, path)
        targets = rows[k][0]
        if e[0] == "call":
            told = _by_call(place, e, targets, seen[e[1]])
        else:
            told = _by_word(place, e, places_below(k, path, e))
            if not path:
                told = [("same", targets[0], place)] + told
        facts.extend([(fact, k) for fact in told])
    return facts
