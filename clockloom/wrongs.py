"""What is wrong of a thing that is to be a module, the first of all in their order."""

from clockloom.fitting import MOST_EXPRESSIONS, MOST_WITHIN, many_fitting
from clockloom.shapes import by_form, flows_of, name_in, parts_of, parts_with_paths, targets_of, walk
from clockloom.things import is_name

MOST_ROWS = 60
MOST_DOORS = 8


def _frame_wrong(thing):
    if not isinstance(thing, tuple) or len(thing) != 4:
        return ("module",)
    if not isinstance(thing[1], tuple) or not isinstance(thing[2], tuple):
        return ("module",)
    if not isinstance(thing[3], list):
        return ("module",)
    return None


def _are_doors(names):
    if len(names) > MOST_DOORS or not all([is_name(x) for x in names]):
        return False
    return len(set(names)) == len(names)


def _head_wrong(thing):
    name, ins, outs, _ = thing
    if not is_name(name):
        return ("name",)
    if not _are_doors(ins):
        return ("ins",)
    if not outs or not _are_doors(outs):
        return ("outs",)
    return None


def _is_row(thing):
    if not isinstance(thing, tuple) or len(thing) != 2:
        return False
    targets = thing[0]
    if not isinstance(targets, tuple) or not targets:
        return False
    for x in targets:
        if not is_name(x):
            return False
    return True


def _rows_wrong(rows):
    for k, row in enumerate(rows):
        if not _is_row(row):
            return ("row", k)
    if len(rows) > MOST_ROWS:
        return ("many",)
    return None


def outer_wrong(thing):
    """What is wrong ahead of all that is asked of expressions, None where nothing is."""
    return _frame_wrong(thing) or _head_wrong(thing) or _rows_wrong(thing[3])


def _forms_wrong(rows, suspects):
    for k in suspects:
        left = [((), rows[k][1])]
        while left:
            path, e = left.pop()
            if not by_form(e):
                return ("place", k, path)
            left.extend(parts_with_paths(path, e))
    return None


def _size_wrong(rows, suspects, many):
    left = [(1, rows[k][1]) for k in suspects]
    while left and many <= MOST_EXPRESSIONS:
        within, e = left.pop()
        many += 1
        if within > MOST_WITHIN:
            return ("size",)
        left.extend([(within + 1, part) for part in parts_of(e)])
    return None if many <= MOST_EXPRESSIONS else ("size",)


def _calls_wrong(rows, suspects):
    for k in suspects:
        for _, path, e in walk([rows[k]]):
            if path and e[0] == "call":
                return ("call", k, path)
            if not path and e[0] != "call" and len(rows[k][0]) > 1:
                return ("call", k, path)
    return None


def _told_wrong(module):
    ahead = {x: True for x in module[1]}
    for x in targets_of(module):
        if x in ahead:
            return ("told", x)
        ahead[x] = True
    return None


def _names_wrong(rows, suspects, known):
    for k in suspects:
        for _, path, e in walk([rows[k]]):
            x = name_in(e)
            if x is not None and x not in known:
                return ("flow", k, path)
    return None


def _outs_wrong(module):
    targets = {x: True for x in targets_of(module)}
    for x in module[2]:
        if x not in targets:
            return ("out", x)
    return None


def _trees_wrong(rows, suspects, many):
    """What is wrong of the rows' trees, where none but the suspects can be, the others having many expressions."""
    return _forms_wrong(rows, suspects) or _size_wrong(rows, suspects, many) or _calls_wrong(rows, suspects)


def inner_wrong(module):
    """What is wrong further on, None where nothing is."""
    rows = module[3]
    known = {x: True for x in flows_of(module)}
    counts = [many_fitting([row], known) for row in rows]
    # Only those rows that don't fit are looked at place by place.
    suspects = [k for k, count in enumerate(counts) if count is None]
    wrong = _trees_wrong(rows, suspects, sum([count for count in counts if count is not None]))
    return wrong or _told_wrong(module) or _names_wrong(rows, suspects, known) or _outs_wrong(module)


def row_wrong(rows, k, many, known):
    """What is wrong where nothing but row k's expression can be, the others having many expressions."""
    return _trees_wrong(rows, [k], many) or _names_wrong(rows, [k], known)


def many_right(module):
    """How many expressions a module has of which nothing is wrong; None where something is, further on."""
    flows = flows_of(module)
    known = {x: True for x in flows}
    if len(known) != len(flows) or _outs_wrong(module) is not None:
        return None
    return many_fitting(module[3], known)
