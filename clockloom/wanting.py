"""What targets want within one beat, of a module that has clocks."""

from clockloom.rings import order_of
from clockloom.shapes import flows_of, name_in, parts_of, targets_of


def _wanted_by(e):
    """The flows in an expression, but those within a then."""
    told = []
    left = [e]
    while left:
        e = left.pop()
        x = name_in(e)
        if x is not None:
            told.append(x)
        if e[0] != "then":
            left.extend(parts_of(e))
    return told


def _wanted_by_out(call, number, below):
    """The flows that the target wants that stands for an out of this number."""
    ins = below.face[2][number]
    told = []
    for x, part in zip(below.ins, call[2]):
        if x in ins:
            told.extend(_wanted_by(part))
    return told


def wants_of(module, conditions, seen):
    """A tuple (target, flows) for each target; conditions leads each flow to those of its clock."""
    flows = flows_of(module)
    told = []
    for targets, e in module[3]:
        for number, target in enumerate(targets):
            if e[0] == "call":
                wanted = _wanted_by_out(e, number, seen[e[1]])
            else:
                wanted = _wanted_by(e)
            wants = {x: True for x in wanted + [c for c, _ in conditions[target]]}
            told.append((target, [x for x in flows if x in wants]))
    return told


def order_by(module, wants):
    """("order", targets), each behind those that it wants, or ("ring", targets)."""
    targets = {x: True for x in targets_of(module)}
    return order_of({target: [x for x in wanted if x in targets] for target, wanted in wants})


def ins_led_to(module, wants, out):
    """The tuple of the ins to which wants lead from an out."""
    wanted_by = {target: wanted for target, wanted in wants}
    reached = {out: True}
    left = [out]
    while left:
        at = left.pop()
        for x in wanted_by.get(at, []):
            if x not in reached:
                reached[x] = True
                left.append(x)
    return tuple([x for x in module[1] if x in reached])
