"""A quick look at a module: the kinds of its ins and outs, and at which beats each place is there.

It goes by numbers of nodes that are tied, and tells nothing where anything goes wrong: why that
is so, and all papers, are left to those who look at each place.
"""

from clockloom.clockfacts import stand_ins
from clockloom.shapes import flows_of, parts_of

# Two nodes of kinds stand for themselves.
NUMBER = 0
TRUTH = 1

# The node of what the parts of an expression are told to be, and of what it is itself, where that is ever the same.
PARTS_TOLD = {"sum": 0, "less": 0, "times": 0, "below": 0, "both": 1, "either": 1, "not": 1}
ITSELF = {
    "num": 0, "truth": 1, "beats": 1, "sum": 0, "less": 0, "times": 0, "below": 1, "same": 1, "both": 1, "either": 1,
    "not": 1,
}


class Nodes:
    """Nodes by numbers from 0 on, some of which are tied."""

    def __init__(self):
        self._lead = []

    def new(self):
        """The number of a new node."""
        self._lead.append(len(self._lead))
        return len(self._lead) - 1

    def of(self, node):
        """The node that stands for all those that are tied with one."""
        lead = self._lead
        while lead[node] != node:
            lead[node] = lead[lead[node]]
            node = lead[node]
        return node

    def tie(self, one, other):
        """Ties two nodes."""
        one = self.of(one)
        other = self.of(other)
        if one != other:
            self._lead[other] = one

    def tie_all(self, node, some):
        """Ties a node with some others."""
        for other in some:
            self.tie(node, other)


class KindLook:
    """What a module's rows tell of kinds: a node for each flow, tied with all that are of its kind."""

    def __init__(self, module, doors):
        self.nodes = Nodes()
        self.nodes.new()
        self.nodes.new()
        self._node_of = {x: self.nodes.new() for x in flows_of(module)}
        for targets, e in module[3]:
            if e[0] == "call":
                some = [self._node(part) for part in e[2]] + [self._node_of[x] for x in targets]
                self._tie_doors(some, doors[e[1]])
            else:
                self.nodes.tie(self._node_of[targets[0]], self._node(e))

    def _tie_doors(self, some, kinds):
        """Ties the nodes of a call's parts and targets as the kinds of what is called tell."""
        node_of = {"number": NUMBER, "truth": TRUTH}
        for node, kind in zip(some, kinds):
            if kind in node_of:
                self.nodes.tie(node_of[kind], node)
            else:
                node_of[kind] = node

    def _node(self, e):
        """The node of an expression."""
        word = e[0]
        if word == "flow":
            return self._node_of[e[1]]
        some = [self._node(part) for part in parts_of(e)]
        if word in PARTS_TOLD:
            self.nodes.tie_all(PARTS_TOLD[word], some)
        elif word == "same":
            self.nodes.tie(some[0], some[1])
        elif word == "pick":
            self.nodes.tie(TRUTH, some[0])
            self.nodes.tie(some[1], some[2])
        elif word == "merge":
            self.nodes.tie(TRUTH, self._node_of[e[1]])
            self.nodes.tie(some[0], some[1])
        elif word == "when":
            self.nodes.tie(TRUTH, self._node_of[e[2]])
        elif word == "then":
            self.nodes.tie(NUMBER if e[1][0] == "num" else TRUTH, some[0])
        return ITSELF[word] if word in ITSELF else some[-1]

    def kind(self, x):
        """The kind of a flow; of a lot some number that all of it have."""
        node = self.nodes.of(self._node_of[x])
        if node == self.nodes.of(NUMBER):
            return "number"
        return "truth" if node == self.nodes.of(TRUTH) else node


def quick_kinds(module, doors):
    """The kinds of a module's ins, then its outs, lots by any numbers; None where it has no kinds.

    doors leads each called module to the kinds of its ins and outs.
    """
    if [name for name in doors if doors[name] is None]:
        return None
    look = KindLook(module, doors)
    if look.nodes.of(NUMBER) == look.nodes.of(TRUTH):
        return None
    return [look.kind(x) for x in module[1] + module[2]]


class ClockLook:
    """What a module's rows tell of clocks: a node for each place, tied with all that are there with it.

    A label is a tuple (c, b), and has a node as well: that of what is over the flow c where it is b.
    """

    def __init__(self, module, seen):
        self._nodes = Nodes()
        self._node_of = {x: self._nodes.new() for x in flows_of(module)}
        self._label_nodes = {}
        for k, (targets, e) in enumerate(module[3]):
            if e[0] == "call":
                self._tie_call(k, targets, e, seen[e[1]])
            else:
                self._nodes.tie(self._node_of[targets[0]], self._node(k, (), e))

    def _label(self, c, b):
        if (c, b) not in self._label_nodes:
            self._label_nodes[(c, b)] = self._nodes.new()
        return self._label_nodes[(c, b)]

    def _tie_call(self, k, targets, call, below):
        base = self._nodes.new()
        self._node_of[(k, ())] = base
        flow_of = stand_ins(call, targets, below)
        ends = [self._node(k, (i,), part) for i, part in enumerate(call[2])] + [self._node_of[x] for x in targets]
        for node, clock in zip(ends, below.face[1]):
            self._nodes.tie(self._label(flow_of[clock[-1][0]], clock[-1][1]) if clock else base, node)

    def _node(self, k, path, e):
        """The node of the expression at a place."""
        word = e[0]
        if word == "flow":
            node = self._node_of[e[1]]
        else:
            some = [self._node(k, (*path, i), part) for i, part in enumerate(parts_of(e))]
            if word == "when":
                self._nodes.tie(self._node_of[e[2]], some[0])
                node = self._label(e[2], e[3])
            elif word == "merge":
                node = self._node_of[e[1]]
                self._nodes.tie(self._label(e[1], True), some[0])
                self._nodes.tie(self._label(e[1], False), some[1])
            else:
                node = some[0] if some else self._nodes.new()
                self._nodes.tie_all(node, some[1:])
        self._node_of[(k, path)] = node
        return node

    def _labels(self):
        """The label of each node that has one; None where one has two."""
        told = {}
        for label in self._label_nodes:
            node = self._nodes.of(self._label_nodes[label])
            if node in told:
                return None
            told[node] = label
        return told

    def conditions(self):
        """The conditions of each place, None where there are no clocks."""
        label_of = self._labels()
        if label_of is None:
            return None
        told = {}
        for begin in label_of:
            way = []
            node = begin
            while node in label_of and node not in told:
                if len(way) > len(label_of):
                    return None
                way.append(node)
                node = self._nodes.of(self._node_of[label_of[node][0]])
            clock = told.get(node, ())
            for node in way[::-1]:
                clock = (*clock, label_of[node])
                told[node] = clock
        return {place: told.get(self._nodes.of(self._node_of[place]), ()) for place in self._node_of}


def quick_conditions(module, seen):
    """The conditions of the clock of each place of a module all of whose calls fit; None where it has no clocks."""
    return ClockLook(module, seen).conditions()
