"""Right loops that nobody would weave, made by a seed, and slow answers about loops, straight from 26 to 30."""

from random import Random


def own_deed(x, deed):
    """The deed that a set of the row has."""
    return {"then": ("cell", x), "when": deed[1], "beats": ("sign", x)}.get(deed[0], deed)


def read_names(deed):
    """The flat names that a set's deed, or a keep's atom, reads."""
    if deed[0] in ("num", "truth", "cell", "sign"):
        return []
    if deed[0] == "flow":
        return [deed[1]]
    told = [part[1] for part in deed[1:] if isinstance(part, tuple) and part[0] == "flow"]
    return told + ([deed[1]] if deed[0] == "merge" else [])


def wild_track(seed, flat):
    """A track of a right loop, in any order that may be."""
    chance = Random(seed)
    left = []
    for x, deed, conditions in flat[2]:
        asked = [c for c, _ in conditions]
        left.append((("set", x, own_deed(x, deed)), asked + read_names(own_deed(x, deed))))
        if deed[0] == "then":
            left.append((("keep", x, deed[2]), asked + [x] + read_names(deed[2])))
        if deed[0] == "beats":
            left.append((("go", x), asked + [x]))
    known = {x for x, _, _ in flat[0]}
    track = []
    while left:
        ready = [line for line in left if set(line[1]) <= known]
        line = chance.choice(ready)
        left.remove(line)
        track.append(line[0])
        if line[0][0] == "set":
            known.add(line[0][1])
    return track


def wild_loop(seed, flat, begins):
    """A right loop whose ifs are told apart more than need be, some of them empty."""
    chance = Random(seed)
    conditions_of = {x: conditions for x, _, conditions in flat[0] + flat[2]}
    known = [x for x, _, _ in flat[0]]
    cells = [(x, begins[x]) for x in chance.sample(sorted(begins), len(begins))]
    top, opened = [], []  # opened: (c, b, first, second)
    for step in wild_track(seed, flat):
        conditions = conditions_of[step[1]]
        keep = 0
        while keep < min(len(opened), len(conditions)) and opened[keep][:2] == conditions[keep]:
            keep += 1
        if chance.random() < 0.3:
            keep = chance.randrange(keep + 1)
        del opened[keep:]
        for c, b in conditions[keep:]:
            here = top if not opened else opened[-1][2 if opened[-1][1] else 3]
            made = (c, b, [], [])
            here.append(("if", c, made[2], made[3]))
            opened.append(made)
        here = top if not opened else opened[-1][2 if opened[-1][1] else 3]
        here.append(step)
        if step[0] == "set":
            known.append(step[1])
        empty = [x for x in known if conditions_of[x] == conditions]
        if empty and chance.random() < 0.1:
            here.append(("if", chance.choice(empty), [], []))
    return (cells, top)


def begins_of(flat, measure):
    """What each cell holds at the begin."""
    told = {}
    for x, deed, _ in flat[2]:
        if deed[0] == "then":
            told[x] = deed[1][1] % measure if deed[1][0] == "num" else deed[1][1]
        if deed[0] == "beats":
            told[x] = 0
    return told


def all_steps(steps, conditions=(), path=()):
    """A tuple (path, step, conditions) for each step, in order."""
    told = []
    for at, step in enumerate(steps):
        told.append((path + (at,), step, conditions))
        if step[0] == "if":
            told += all_steps(step[2], conditions + ((step[1], True),), path + (at, 0))
            told += all_steps(step[3], conditions + ((step[1], False),), path + (at, 1))
    return told


def slow_judged(flat, loop, measure):
    """What 27 says of a thing that has the form of a loop."""
    cells, steps = loop
    if sorted(map(repr, cells)) != sorted(repr(cell) for cell in begins_of(flat, measure).items()):
        return ("cells",)
    rows = {x: (deed, conditions) for x, deed, conditions in flat[2]}
    conditions_of = {x: conditions for x, _, conditions in flat[0] + flat[2]}
    ins = {x for x, _, _ in flat[0]}
    ahead = []
    for path, step, conditions in all_steps(steps):
        known = ins | {other[1] for other in ahead if other[0] == "set"}
        word, x = step[:2]
        fine = x in conditions_of and conditions_of[x] == conditions
        if word == "if":
            fine = fine and x in known
        else:
            fine = fine and x in rows and not [other for other in ahead if other[:2] == step[:2]]
            if word == "set":
                fine = fine and repr(step[2]) == repr(own_deed(x, rows[x][0])) and set(read_names(step[2])) <= known
            else:
                fine = fine and x in known and rows[x][0][0] == {"keep": "then", "go": "beats"}[word]
            if word == "keep":
                fine = fine and repr(step[2]) == repr(rows[x][0][2]) and set(read_names(step[2])) <= known
        if not fine:
            return ("step", path)
        ahead.append(step)
    done = {step[:2] for step in ahead}
    for x in rows:
        if ("set", x) not in done:
            return ("set", x)
    for x in rows:
        if rows[x][0][0] in ("then", "beats") and not {("keep", x), ("go", x)} & done:
            return ("keep", x)
    return None


def fewest(track):
    """The fewest ifs of all loops whose steps stand at these conditions, by trying each way to tell them apart."""
    known = {}

    def cost(begin, end, deep):
        if begin == end:
            return 0
        if (begin, end, deep) in known:
            return known[(begin, end, deep)]
        if len(track[begin]) == deep:
            told = cost(begin + 1, end, deep)
        else:
            c = track[begin][deep][0]
            tries = []
            for last in range(begin + 1, end + 1):
                some = track[begin:last]
                if any(len(conditions) <= deep or conditions[deep][0] != c for conditions in some):
                    break
                truths = [conditions[deep][1] for conditions in some]
                if truths == sorted(truths, reverse=True):
                    middle = begin + truths.count(True)
                    tries.append(1 + cost(begin, middle, deep + 1) + cost(middle, last, deep + 1) + cost(last, end, deep))
            told = min(tries)
        known[(begin, end, deep)] = told
        return told

    return cost(0, len(track), 0)
