"""The faces of modules, each behind those that it calls, and why there are none."""

from clockloom.books import called_first
from clockloom.clockfacts import Seen, clocked, facts_of, first_faceless, first_not_plain
from clockloom.clocksolving import solved
from clockloom.errors import NoFace
from clockloom.kinds import kinds_paper
from clockloom.links import Links
from clockloom.quicklook import quick_conditions, quick_kinds
from clockloom.shapes import calls_of
from clockloom.wanting import ins_led_to, order_by, wants_of


def clocks_paper(module, seen):
    """What clocks tells of a module, by what is seen of those that it calls."""
    m = first_faceless(module, seen)
    if m is not None:
        return ("inner", m)
    not_plain = first_not_plain(module, seen)
    if not_plain is not None:
        return ("plain", *not_plain)
    return solved(Links(clocked(module), facts_of(module, seen)))


def _first_unnamed(module, conditions):
    """The first in whose clock hangs on more than ins, or out on more than ins and outs, or None."""
    ins, outs = module[1], module[2]
    for x in ins:
        if [c for c, _ in conditions[x] if c not in ins]:
            return x
    for x in outs:
        if [c for c, _ in conditions[x] if c not in ins and c not in outs]:
            return x
    return None


def _kinds_anew(kinds):
    """Kinds with their lots numbered from 0 on as they come."""
    numbers = {}
    told = []
    for kind in kinds:
        if kind in ("number", "truth"):
            told.append(kind)
        else:
            if kind not in numbers:
                numbers[kind] = len(numbers)
            told.append(numbers[kind])
    return tuple(told)


def _kinds_seen(seen, known):
    """Fills in the kinds of what is Seen of a module, or why it has none."""
    module = seen.module
    doors = {call[1]: known[call[1]].door_kinds for _, _, call in calls_of(module)}
    seen.door_kinds = quick_kinds(module, doors)
    if seen.door_kinds is None:
        seen.paper = kinds_paper(module, doors)


def _clocks_seen(seen, known):
    """Fills in the clocks of what is Seen of a module that has kinds, or why it has none."""
    module = seen.module
    if first_faceless(module, known) is None and first_not_plain(module, known) is None:
        seen.conditions = quick_conditions(module, known)
    if seen.conditions is None:
        seen.paper = clocks_paper(module, known)
        return
    unnamed = _first_unnamed(module, seen.conditions)
    if unnamed is not None:
        seen.paper = ("name", unnamed)


def _wants_seen(seen, known):
    """Fills in the wants, and the face, of what is Seen of a module whose doors have clocks."""
    module = seen.module
    seen.wants = wants_of(module, seen.conditions, known)
    seen.order = order_by(module, seen.wants)
    if seen.order[0] == "ring":
        seen.paper = seen.order
        return
    clocks = tuple([seen.conditions[x] for x in module[1] + module[2]])
    wants = tuple([ins_led_to(module, seen.wants, out) for out in module[2]])
    seen.face = (_kinds_anew(seen.door_kinds), clocks, wants)


def _seen_of(module, known):
    """What is Seen of a module, by what is Seen of those that it calls."""
    seen = Seen(module)
    _kinds_seen(seen, known)
    if seen.paper is None:
        _clocks_seen(seen, known)
    if seen.paper is None:
        _wants_seen(seen, known)
    return seen


def fill_seen(known, modules):
    """Fills in what is Seen of those of some modules that are not known, each behind those that it calls."""
    for module in modules:
        if module[0] not in known:
            known[module[0]] = _seen_of(module, known)


def seen_among(book, modules):
    """What is Seen of modules of a book, each behind those that it calls, by their names (and of others)."""
    fill_seen(book.seen, modules)
    return book.seen


def seen_in(book, name):
    """What is Seen of a module and of all those that it calls, by their names (and of others)."""
    if name in book.seen:
        return book.seen
    return seen_among(book, called_first(book, name))


def faced_in(book, name):
    """As seen_in, refused where the module has no face."""
    known = seen_in(book, name)
    if known[name].face is None:
        raise NoFace(known[name].paper)
    return known
