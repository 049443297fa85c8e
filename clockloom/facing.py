"""The faces of modules, each behind those that it calls, and why there are none."""

from clockloom.clockfacts import Seen, clocked, facts_of, first_faceless, first_not_plain
from clockloom.clocksolving import solved
from clockloom.kinds import door_kinds, kinds_papers
from clockloom.links import Links
from clockloom.wanting import ins_led_to, order_by, wants_of


def clocks_paper(module, seen):
    """What clocks tells of a module, by what is seen of those that it calls."""
    m = first_faceless(module, seen)
    if m is not None:
        return ("inner", m)
    not_plain = first_not_plain(module, seen)
    if not_plain is not None:
        return ("plain", *not_plain)
    return solved(Links(clocked(module), facts_of(module, seen)))


def _first_unnamed(module, conditions):
    """The first in whose clock hangs on more than ins, or out on more than ins and outs, or None."""
    ins, outs = module[1], module[2]
    for x in ins:
        if [c for c, _ in conditions[x] if c not in ins]:
            return x
    for x in outs:
        if [c for c, _ in conditions[x] if c not in ins and c not in outs]:
            return x
    return None


def _kinds_anew(kinds):
    """Kinds with their lots numbered from 0 on as they come."""
    numbers = {}
    told = []
    for kind in kinds:
        if kind in ("number", "truth"):
            told.append(kind)
        else:
            if kind not in numbers:
                numbers[kind] = len(numbers)
            told.append(numbers[kind])
    return tuple(told)


def _seen_of(module, kinds_told, seen):
    """What is Seen of a module, by what kinds tells of it and by what is seen of those that it calls."""
    if kinds_told[0] != "kinds":
        return Seen(module, None, kinds_told)
    clocks_told = clocks_paper(module, seen)
    if clocks_told[0] != "clocks":
        return Seen(module, None, clocks_told)
    conditions = {place: clock[1] for place, clock in clocks_told[1]}
    unnamed = _first_unnamed(module, conditions)
    if unnamed is not None:
        return Seen(module, None, ("name", unnamed))
    wants = wants_of(module, conditions, seen)
    order = order_by(module, wants)
    if order[0] == "ring":
        return Seen(module, None, order)
    clocks = tuple([conditions[x] for x in module[1] + module[2]])
    face_wants = tuple([ins_led_to(module, wants, out) for out in module[2]])
    return Seen(module, (_kinds_anew(door_kinds(module, kinds_told)), clocks, face_wants), None)


def all_seen(modules):
    """What is Seen of modules, each behind those that it calls, by their names."""
    papers = kinds_papers(modules)
    seen = {}
    for module in modules:
        seen[module[0]] = _seen_of(module, papers[module[0]], seen)
    return seen
