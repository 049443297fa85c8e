"""Slow answers, written straight from 13 to 20, for tests of what is inferred.

They go by closure: all that is forced is written down, until nothing more comes.
"""

from clockloom.trees import e_at, flows, places


def others(module):
    """A tuple (place, e, parts) for each place that is no flow."""
    told = []
    spots = places(module)
    for k, path in spots:
        e = e_at(module, (k, path))
        parts = [place for place in spots if place[0] == k and place[1] and place[1][:-1] == path]
        told.append(((k, path), e, parts))
    return told


def called(module):
    """The names that a module calls, in the order of rows."""
    return [e[1] for _, e in module[3] if e[0] == "call"]


def kind_rules(book, name):
    """The ties and the tells of 13, of a module all of whose called ones have kinds."""
    module = book.module(name)
    ties, tells = set(), set()
    for place, e, parts in others(module):
        k, path = place
        word = e[0]
        if word == "call":
            below = book.module(e[1])
            table = dict(slow_kinds(book, e[1])[1])
            ends = parts + list(module[3][k][0])
            doors = [table[x] for x in below[1] + below[2]]
            tells |= {(end, kind) for end, kind in zip(ends, doors) if isinstance(kind, str)}
            for lot in {kind for kind in doors if not isinstance(kind, str)}:
                some = [end for end, kind in zip(ends, doors) if kind == lot]
                ties |= set(zip(some, some[1:]))
            continue
        if path == ():
            ties.add((module[3][k][0][0], place))
        ties |= {"flow": {(place, e[1])}, "same": {tuple(parts)}, "pick": {(place, part) for part in parts[1:]},
                 "then": {(place, part) for part in parts}, "when": {(place, part) for part in parts},
                 "merge": {(place, part) for part in parts}}.get(word, set())
        told = {"num": [([place], "number")], "truth": [([place], "truth")], "beats": [([place], "truth")],
                "sum": [([place] + parts, "number")], "less": [([place] + parts, "number")],
                "times": [([place] + parts, "number")], "below": [(parts, "number"), ([place], "truth")],
                "same": [([place], "truth")], "both": [([place] + parts, "truth")],
                "either": [([place] + parts, "truth")], "not": [([place] + parts, "truth")],
                "pick": [(parts[:1], "truth")], "when": [([e[2]], "truth")] if word == "when" else [],
                "merge": [([e[1]], "truth")],
                "then": [([place], "number" if e[1][0] == "num" else "truth")] if word == "then" else []}
        tells |= {(one, kind) for some, kind in told.get(word, []) for one in some}
    return ties | {(other, one) for one, other in ties}, tells


def slow_kinds(book, name):
    """("kinds", table), ("inner", m), or ("clash", None)."""
    module = book.module(name)
    for m in called(module):
        if slow_kinds(book, m)[0] != "kinds":
            return ("inner", m)
    ties, tells = kind_rules(book, name)
    all_places = flows(module) + [place for place, e, _ in others(module) if e[0] != "call"]
    lead = {place: {place} for place in all_places}
    grown = True
    while grown:
        grown = False
        for one, other in ties:
            if not lead[other] <= lead[one]:
                lead[one] |= lead[other]
                grown = True
    table, lots = [], []
    for place in all_places:
        told = {kind for one, kind in tells if one in lead[place]}
        if len(told) == 2:
            return ("clash", None)
        if told:
            table.append((place, told.pop()))
        else:
            if lead[place] not in lots:
                lots.append(lead[place])
            table.append((place, lots.index(lead[place])))
    return ("kinds", table)


def clock_rules(book, name):
    """A set of tuples (k, fact) by 15, sames both ways; all called ones have faces, all parts are plain."""
    module = book.module(name)
    told = set()
    for place, e, parts in others(module):
        k, path = place
        word = e[0]
        if word == "call":
            below = book.module(e[1])
            targets = list(module[3][k][0])
            stands = dict(zip(below[2], targets))
            stands.update({x: part[1] for x, part in zip(below[1], e[2]) if part[0] == "flow"})
            for end, clock in zip(parts + targets, slow_face(book, e[1])[1]):
                told.add((k, ("over", end, stands[clock[-1][0]], clock[-1][1]) if clock else ("same", end, place)))
            continue
        if path == ():
            told.add((k, ("same", module[3][k][0][0], place)))
        if word == "flow":
            told.add((k, ("same", place, e[1])))
        elif word == "when":
            told |= {(k, ("same", parts[0], e[2])), (k, ("over", place, e[2], e[3]))}
        elif word == "merge":
            told |= {(k, ("same", place, e[1])), (k, ("over", parts[0], e[1], True)),
                     (k, ("over", parts[1], e[1], False))}
        else:
            told |= {(k, ("same", place, part)) for part in parts}
    return told | {(k, ("same", fact[2], fact[1])) for k, fact in told if fact[0] == "same"}


def plain_places(book, name):
    """The pairs (k, i) of parts that must be flows and are none, in order."""
    told = []
    for k, (_, e) in enumerate(book.module(name)[3]):
        if e[0] == "call":
            asked = {clock[-1][0] for clock in slow_face(book, e[1])[1] if clock}
            told += [(k, i) for i, x in enumerate(book.module(e[1])[1]) if x in asked and e[2][i][0] != "flow"]
    return told


def forced(facts, spots):
    """The places that must have the same clock as each one, and the labels over which each must be."""
    same = {p: {p} for p in spots}
    over = {p: {fact[2:] for fact in facts if fact[0] == "over" and fact[1] == p} for p in spots}
    grown = True
    while grown:
        before = [len(same[p]) + len(over[p]) for p in spots]
        for fact in facts:
            if fact[0] == "same":
                same[fact[1]] |= same[fact[2]]
        for p in spots:
            for q in spots:
                if q in same[p]:
                    over[p] |= over[q]
                if over[p] & over[q]:
                    same[p] |= same[q]
        grown = before != [len(same[p]) + len(over[p]) for p in spots]
    return same, over


def slow_clocks(book, name):
    """("clocks", table), ("inner", m), ("plain", k, i), or ("clash", None)."""
    module = book.module(name)
    for m in called(module):
        if slow_face(book, m) is None:
            return ("inner", m)
    if plain_places(book, name):
        return ("plain",) + plain_places(book, name)[0]
    spots = flows(module) + places(module)
    same, over = forced({fact for _, fact in clock_rules(book, name)}, spots)
    if any(len(over[p]) > 1 for p in spots):
        return ("clash", None)
    table, roots = [], []
    for p in spots:
        conditions, at = (), p
        while over[at]:
            if len(conditions) > len(spots):
                return ("clash", None)
            label = list(over[at])[0]
            conditions = (label,) + conditions
            at = label[0]
        if same[at] not in roots:
            roots.append(same[at])
        table.append((p, (roots.index(same[at]), conditions)))
    return ("clocks", table)


def plain_parts(e):
    """The parts of an expression."""
    return e[2] if e[0] == "call" else [part for part in e[1 + (e[0] == "then"):] if isinstance(part, tuple)]


def reads(e):
    """The flows that an expression wants."""
    if e[0] == "flow":
        return {e[1]}
    if e[0] == "then":
        return set()
    told = {e[2]} if e[0] == "when" else {e[1]} if e[0] == "merge" else set()
    return told.union(*[reads(part) for part in plain_parts(e)])


def slow_wants(book, name, table):
    """What each target wants, by 19, as a dict of sets."""
    told = {}
    for targets, e in book.module(name)[3]:
        for number, target in enumerate(targets):
            if e[0] == "call":
                ins = book.module(e[1])[1]
                asked = slow_face(book, e[1])[2][number]
                told[target] = set().union(*[reads(part) for x, part in zip(ins, e[2]) if x in asked])
            else:
                told[target] = reads(e)
            told[target] |= {c for c, _ in dict(table)[target][1]}
    return told


def wanted_at_last(wants):
    """All to which wants lead from each target."""
    told = {x: set(wants[x]) for x in wants}
    for _ in wants:
        for x in told:
            told[x] = told[x].union(*[told[y] for y in told[x] if y in told])
    return told


def slow_lack(book, name):
    """The word of what NoFace holds, and for a name which; None where there is a face."""
    module = book.module(name)
    if slow_kinds(book, name)[0] != "kinds":
        return slow_kinds(book, name)[0]
    paper = slow_clocks(book, name)
    if paper[0] != "clocks":
        return paper[0]
    table = dict(paper[1])
    for x in module[1] + module[2]:
        known = module[1] if x in module[1] else module[1] + module[2]
        if [c for c, _ in table[x][1] if c not in known]:
            return "name " + x
    wants = wanted_at_last(slow_wants(book, name, table))
    return "ring" if any(x in wants[x] for x in wants) else None


FACES = []


def slow_face(book, name):
    """The face of a module, None where it has none."""
    for known, at, told in FACES:
        if at == name and known == book:
            return told
    told = None
    if slow_lack(book, name) is None:
        module = book.module(name)
        doors = module[1] + module[2]
        kind_of = dict(slow_kinds(book, name)[1])
        lots = []
        for x in doors:
            if not isinstance(kind_of[x], str) and kind_of[x] not in lots:
                lots.append(kind_of[x])
        table = dict(slow_clocks(book, name)[1])
        wants = wanted_at_last(slow_wants(book, name, table))
        told = (
            tuple(kind_of[x] if isinstance(kind_of[x], str) else lots.index(kind_of[x]) for x in doors),
            tuple(table[x][1] for x in doors),
            tuple(tuple(x for x in module[1] if x in wants[out]) for out in module[2]),
        )
    FACES.insert(0, (book, name, told))
    del FACES[50:]
    return told


def line_right(lines, i, rules):
    """Whether the line of this number is right by 18."""
    fact, reason = lines[i]
    if reason[0] == "row":
        return (reason[1], fact) in rules
    if any(not 0 <= j < i for j in reason[1:]):
        return False
    ahead = [lines[j][0] for j in reason[1:]]
    if reason[0] == "turn":
        return ahead[0][0] == "same" and fact == ("same", ahead[0][2], ahead[0][1])
    one, other = ahead
    if reason[0] == "chain":
        return (one[0], other[0], one[2]) == ("same", "same", other[1]) and fact == ("same", one[1], other[2])
    if reason[0] == "carry":
        return (one[0], other[0], one[2]) == ("same", "over", other[1]) and fact == ("over", one[1]) + other[2:]
    if reason[0] == "join":
        return (one[0], other[0], one[2:]) == ("over", "over", other[2:]) and fact == ("same", one[1], other[1])
    return False


def lines_right(lines, rules):
    """Whether all lines are right, the clash too."""
    if not isinstance(lines, list) or len(lines) > 2001:
        return False
    if not all(line_right(lines, i, rules) for i in range(len(lines) - 1)):
        return False
    clash = lines[-1]
    numbers = clash[1] if clash[0] == "within" else clash[1:]
    if not numbers or any(not 0 <= j < len(lines) - 1 for j in numbers):
        return False
    overs = [lines[j][0] for j in numbers]
    if any(fact[0] != "over" for fact in overs):
        return False
    if clash[0] == "two":
        return len(overs) == 2 and overs[0][1] == overs[1][1] and overs[0][2:] != overs[1][2:]
    return clash[0] == "within" and isinstance(clash[1], list) and all(
        fact[1] == overs[number - 1][2] for number, fact in enumerate(overs))
