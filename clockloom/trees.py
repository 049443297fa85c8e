"""Modules as trees: whether a thing is one, and what stands at its places."""

from clockloom.errors import NoModule, NoPlace
from clockloom.shapes import (
    by_form, flows_of, name_in, parts_of, parts_with_paths, targets_of, walk, with_part,
)
from clockloom.things import fresh, is_name, is_whole

MOST = 60
MOST_DOORS = 8
MOST_EXPRESSIONS = 200
MOST_WITHIN = 8


def _frame_wrong(thing):
    if not isinstance(thing, tuple) or len(thing) != 4:
        return ("module",)
    if not isinstance(thing[1], tuple) or not isinstance(thing[2], tuple):
        return ("module",)
    if not isinstance(thing[3], list):
        return ("module",)
    return None


def _are_doors(names):
    if len(names) > MOST_DOORS or not all([is_name(x) for x in names]):
        return False
    return len(set(names)) == len(names)


def _head_wrong(thing):
    name, ins, outs, _ = thing
    if not is_name(name):
        return ("name",)
    if not _are_doors(ins):
        return ("ins",)
    if not outs or not _are_doors(outs):
        return ("outs",)
    return None


def _is_row(thing):
    if not isinstance(thing, tuple) or len(thing) != 2:
        return False
    targets = thing[0]
    return isinstance(targets, tuple) and bool(targets) and all([is_name(x) for x in targets])


def _rows_wrong(rows):
    for k, row in enumerate(rows):
        if not _is_row(row):
            return ("row", k)
    if len(rows) > MOST:
        return ("many",)
    return None


def _forms_wrong(rows):
    for k, (_, whole) in enumerate(rows):
        left = [((), whole)]
        while left:
            path, e = left.pop()
            if not by_form(e):
                return ("place", k, path)
            left.extend(parts_with_paths(path, e))
    return None


def _size_wrong(rows):
    left = [(1, whole) for _, whole in rows]
    many = 0
    while left:
        within, e = left.pop()
        many += 1
        if many > MOST_EXPRESSIONS or within > MOST_WITHIN:
            return ("size",)
        left.extend([(within + 1, part) for part in parts_of(e)])
    return None


def _calls_wrong(rows):
    for k, path, e in walk(rows):
        if path and e[0] == "call":
            return ("call", k, path)
        if not path and e[0] != "call" and len(rows[k][0]) > 1:
            return ("call", k, path)
    return None


def _told_wrong(module):
    ahead = {x: True for x in module[1]}
    for x in targets_of(module):
        if x in ahead:
            return ("told", x)
        ahead[x] = True
    return None


def _names_wrong(module):
    known = {x: True for x in flows_of(module)}
    for k, path, e in walk(module[3]):
        x = name_in(e)
        if x is not None and x not in known:
            return ("flow", k, path)
    return None


def _outs_wrong(module):
    targets = targets_of(module)
    for x in module[2]:
        if x not in targets:
            return ("out", x)
    return None


def module_wrong(thing):
    """None where a thing is a module, else the first that is not so."""
    wrong = _frame_wrong(thing) or _head_wrong(thing) or _rows_wrong(thing[3])
    wrong = wrong or _forms_wrong(thing[3]) or _size_wrong(thing[3]) or _calls_wrong(thing[3])
    return wrong or _told_wrong(thing) or _names_wrong(thing) or _outs_wrong(thing)


def check_module(thing):
    """Refuses what is no module."""
    wrong = module_wrong(thing)
    if wrong is not None:
        raise NoModule(wrong)


def places(module, *, only=()):
    """The places of a module, or those alone whose expression's word is in only."""
    check_module(module)
    return [(k, path) for k, path, e in walk(module[3]) if not only or e[0] in only]


def is_spot(thing):
    """Whether a thing is by form a place (k, path)."""
    if not isinstance(thing, tuple) or len(thing) != 2 or not isinstance(thing[1], tuple):
        return False
    return is_whole(thing[0]) and all([is_whole(i) for i in thing[1]])


def _found(module, place):
    """The expression at a place, or None."""
    if not is_spot(place) or not 0 <= place[0] < len(module[3]):
        return None
    e = module[3][place[0]][1]
    for i in place[1]:
        parts = parts_of(e)
        if not 0 <= i < len(parts):
            return None
        e = parts[i]
    return e


def e_at(module, place):
    """The expression at a place."""
    check_module(module)
    e = _found(module, place)
    if e is None:
        raise NoPlace(place)
    return fresh(e)


def with_e(module, place, e):
    """The module with a thing in its place."""
    check_module(module)
    if _found(module, place) is None:
        raise NoPlace(place)
    k, path = place
    name, ins, outs, rows = module
    rows = list(rows)
    targets, whole = rows[k]
    rows[k] = (targets, with_part(whole, path, e))
    told = (name, ins, outs, rows)
    check_module(told)
    return fresh(told)


def flows(module):
    """The flows of a module: its ins, then its targets."""
    check_module(module)
    return flows_of(module)
