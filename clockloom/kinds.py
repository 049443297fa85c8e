"""Kinds: which places of a module are numbers, which truths, and which of a lot."""

from clockloom.books import called_first
from clockloom.shapes import calls_of
from clockloom.things import is_name, is_whole
from clockloom.ties import kinded, ties_of
from clockloom.trees import is_spot


def _reached(ties, begins):
    """All places to which ties lead from some, each led to the one ahead, the nearest first."""
    ahead = {place: None for place in begins}
    queue = list(begins)
    at = 0
    while at < len(queue):
        place = queue[at]
        at += 1
        for other in ties.tied[place]:
            if other not in ahead:
                ahead[other] = place
                queue.append(other)
    return ahead


def _chain(ties, lot):
    """The places from one told a number to one told a truth, in a lot that has both; else None."""
    numbers = [place for place in lot if "number" in ties.told[place]]
    ahead = _reached(ties, numbers)
    for place in ahead:
        if "truth" in ties.told[place]:
            chain = [place]
            while ahead[chain[-1]] is not None:
                chain.append(ahead[chain[-1]])
            return chain[::-1]
    return None


def _told_kind(ties, lot):
    for place in lot:
        if ties.told[place]:
            return ties.told[place][0]
    return None


def _widest(ties):
    """The paper that ties alone tell."""
    kind_of = {}
    lots = 0
    for place in ties.places:
        if place in kind_of:
            continue
        lot = list(_reached(ties, [place]))
        chain = _chain(ties, lot)
        if chain is not None:
            return ("clash", chain)
        kind = _told_kind(ties, lot)
        if kind is None:
            kind = lots
            lots += 1
        for other in lot:
            kind_of[other] = kind
    return ("kinds", [(place, kind_of[place]) for place in ties.places])


def _first_kindless(module, doors):
    """The module called in the least row of those that have no kinds, or None."""
    for _, _, call in calls_of(module):
        if doors[call[1]] is None:
            return call[1]
    return None


def kinds_paper(module, doors):
    """What kinds tells of a module; doors leads each module called by it to the kinds of its ins and outs."""
    m = _first_kindless(module, doors)
    if m is not None:
        return ("inner", m)
    return _widest(ties_of(module, doors))


def door_kinds(module, paper):
    """The kinds of a module's ins, then its outs, by what kinds tells; None where it has none."""
    if paper[0] != "kinds":
        return None
    kind_of = {place: kind for place, kind in paper[1]}
    return [kind_of[x] for x in module[1] + module[2]]


def kinds_papers(modules):
    """What kinds tells of modules, each behind those that it calls, by their names."""
    papers = {}
    doors = {}
    for module in modules:
        name = module[0]
        papers[name] = kinds_paper(module, doors)
        doors[name] = door_kinds(module, papers[name])
    return papers


def kinds(book, name):
    """The widest kinds of a module, or why it has none."""
    return kinds_papers(called_first(book, name))[name]


def _is_paper(module, paper):
    if not isinstance(paper, tuple) or len(paper) != 2:
        return False
    word, thing = paper
    if word == "inner":
        return is_name(thing)
    if word == "kinds":
        return isinstance(thing, list)
    return word == "clash" and isinstance(thing, list) and bool(thing) and _are_kinded(module, thing)


def _are_kinded(module, some):
    known = {place: True for place in kinded(module)}
    return all([(isinstance(place, str) or is_spot(place)) and place in known for place in some])


def _is_kind(thing):
    if isinstance(thing, str):
        return thing in ("number", "truth")
    return is_whole(thing) and thing >= 0


def _is_table(module, table):
    expected = kinded(module)
    if len(table) != len(expected):
        return False
    for line, place in zip(table, expected):
        if not isinstance(line, tuple) or len(line) != 2 or not _is_kind(line[1]):
            return False
        if not (isinstance(line[0], str) or is_spot(line[0])) or line[0] != place:
            return False
    return True


def _table_judged(ties, table):
    kind_of = {}
    for i, (place, kind) in enumerate(table):
        told = [other for other in ties.told[place] if other != kind]
        tied = [other for other in ties.tied[place] if other in kind_of and kind_of[other] != kind]
        if told or tied:
            return ("kind", i)
        kind_of[place] = kind
    return None


def _chain_judged(ties, chain):
    if "number" not in ties.told[chain[0]]:
        return ("begin",)
    if "truth" not in ties.told[chain[-1]]:
        return ("end",)
    for i in range(len(chain) - 1):
        if chain[i + 1] not in ties.tied[chain[i]]:
            return ("tie", i)
    return None


def kinds_judged(book, name, paper):
    """None where a paper of kinds is right of a module, else the first that is not so."""
    modules = called_first(book, name)
    module = modules[-1]
    if not _is_paper(module, paper):
        return ("paper",)
    papers = kinds_papers(modules[:-1])
    doors = {below[0]: door_kinds(below, papers[below[0]]) for below in modules[:-1]}
    kindless = _first_kindless(module, doors)
    if paper[0] == "inner":
        return None if kindless == paper[1] else ("inner",)
    if kindless is not None:
        return ("inner",)
    ties = ties_of(module, doors)
    if paper[0] == "clash":
        return _chain_judged(ties, paper[1])
    if not _is_table(module, paper[1]):
        return ("table",)
    return _table_judged(ties, paper[1])
