"""Modules as trees: whether a thing is one, and what stands at its places."""

from clockloom.errors import NoModule, NoPlace
from clockloom.fitting import MOST_EXPRESSIONS, many_fitting
from clockloom.shapes import copied_e, copied_module, flows_of, part_at, walk, with_part
from clockloom.things import is_whole
from clockloom.wrongs import inner_wrong, many_right, outer_wrong, row_wrong

MOST = 60


def _looked_at(thing):
    """(many, None), many being how many expressions a module has, or (None, wrong) of what is none."""
    wrong = outer_wrong(thing)
    if wrong is not None:
        return (None, wrong)
    many = many_right(thing)
    if many is None:
        return (None, inner_wrong(thing))
    return (many, None)


def module_wrong(thing):
    """None where a thing is a module, else the first that is not so."""
    return _looked_at(thing)[1]


def check_module(thing):
    """Refuses what is no module, and tells how many expressions one has."""
    many, wrong = _looked_at(thing)
    if wrong is not None:
        raise NoModule(wrong)
    return many


def places(module, *, only=()):
    """The places of a module, or those alone whose expression's word is in only."""
    check_module(module)
    return [(k, path) for k, path, e in walk(module[3]) if not only or e[0] in only]


def is_spot(thing):
    """Whether a thing is by form a place (k, path)."""
    if not isinstance(thing, tuple) or len(thing) != 2 or not isinstance(thing[1], tuple):
        return False
    return is_whole(thing[0]) and all([is_whole(i) for i in thing[1]])


def _found(module, place):
    """The expression at a place, or None."""
    if not is_spot(place) or not 0 <= place[0] < len(module[3]):
        return None
    return part_at(module[3][place[0]][1], place[1])


def e_at(module, place):
    """The expression at a place."""
    check_module(module)
    e = _found(module, place)
    if e is None:
        raise NoPlace(place)
    return copied_e(e)


def with_e(module, place, e):
    """The module with a thing in its place."""
    many = check_module(module)
    if _found(module, place) is None:
        raise NoPlace(place)
    k, path = place
    name, ins, outs, rows = module
    rows = list(rows)
    ahead = rows[k]
    rows[k] = (ahead[0], with_part(ahead[1], path, e))
    # Only what stands in this row, and the size of all, can have become wrong.
    known = {x: True for x in flows_of(module)}
    many -= many_fitting([ahead], known)
    count = many_fitting([rows[k]], known)
    if count is None or many + count > MOST_EXPRESSIONS:
        raise NoModule(row_wrong(rows, k, many, known))
    return copied_module((name, ins, outs, rows))


def flows(module):
    """The flows of a module: its ins, then its targets."""
    check_module(module)
    return flows_of(module)
