"""The forms of expressions, and ways through the trees that they make."""

from clockloom.things import is_name, is_signs, is_whole

# How many things stand in the tuple of each word.
SIZES = {
    "num": 2, "truth": 2, "flow": 2,
    "sum": 3, "less": 3, "times": 3, "below": 3, "same": 3, "both": 3, "either": 3,
    "not": 2, "pick": 4, "then": 3, "when": 4, "merge": 4, "beats": 3, "call": 3,
}

# Where the parts stand in the tuple; those of a call stand in a list instead.
PART_SPOTS = {
    "sum": (1, 2), "less": (1, 2), "times": (1, 2), "below": (1, 2), "same": (1, 2),
    "both": (1, 2), "either": (1, 2), "not": (1,), "pick": (1, 2, 3), "then": (2,),
    "when": (1,), "merge": (2, 3),
}

# Where the name of a flow stands in the tuple.
NAME_SPOTS = {"flow": 1, "when": 2, "merge": 1}


def _num_by_form(e):
    return is_whole(e[1]) and 0 <= e[1] < 10 ** 12


def _truth_by_form(e):
    return isinstance(e[1], bool)


def _flow_by_form(e):
    return is_name(e[1])


def _then_by_form(e):
    k = e[1]
    if not isinstance(k, tuple) or len(k) != 2:
        return False
    return (k[0] == "num" and _num_by_form(k)) or (k[0] == "truth" and _truth_by_form(k))


def _when_by_form(e):
    return is_name(e[2]) and isinstance(e[3], bool)


def _beats_by_form(e):
    head, again = e[1], e[2]
    return is_signs(head) and is_signs(again) and len(head) <= 60 and 1 <= len(again) <= 60


def _call_by_form(e):
    return is_name(e[1]) and isinstance(e[2], list) and len(e[2]) <= 8


OWN_FORMS = {
    "num": _num_by_form, "truth": _truth_by_form, "flow": _flow_by_form, "then": _then_by_form,
    "when": _when_by_form, "merge": _flow_by_form, "beats": _beats_by_form, "call": _call_by_form,
}


def by_form(thing):
    """Whether a thing is an expression by its own form, whatever its parts are."""
    if not isinstance(thing, tuple) or not thing or not isinstance(thing[0], str):
        return False
    if SIZES.get(thing[0]) != len(thing):
        return False
    own_form = OWN_FORMS.get(thing[0])
    return own_form is None or own_form(thing)


def parts_of(e):
    """The parts of an expression, in order."""
    word = e[0]
    if word in PART_SPOTS:
        return [e[spot] for spot in PART_SPOTS[word]]
    return list(e[2]) if word == "call" else []


def parts_with_paths(path, e):
    """A tuple (path, part) for each part of the expression at a path, the last one first."""
    parts = parts_of(e)
    return [((*path, i), parts[i]) for i in range(len(parts) - 1, -1, -1)]


def part_at(e, path):
    """The expression at the end of a path, None where there is none."""
    for i in path:
        parts = parts_of(e)
        if not 0 <= i < len(parts):
            return None
        e = parts[i]
    return e


def copied_e(e):
    """An expression with new lists; those of calls alone have any, and calls stand as wholes alone."""
    if e[0] == "call":
        return ("call", e[1], list(e[2]))
    return e


def copied_module(module):
    """A module with new lists."""
    name, ins, outs, rows = module
    return (name, ins, outs, [(targets, copied_e(e)) for targets, e in rows])


def name_in(e):
    """The name of a flow that stands in the expression itself, or None."""
    spot = NAME_SPOTS.get(e[0])
    if spot is None:
        return None
    return e[spot]


def with_part(e, path, thing):
    """The expression with a thing at the end of the path."""
    if not path:
        return thing
    if e[0] == "call":
        parts = list(e[2])
        parts[path[0]] = with_part(parts[path[0]], path[1:], thing)
        return ("call", e[1], parts)
    spot = PART_SPOTS[e[0]][path[0]]
    return e[:spot] + (with_part(e[spot], path[1:], thing),) + e[spot + 1:]


def _walk_into(told, k, path, e):
    """Tells an expression, then its parts. Expressions of modules lie in one another but a few deep."""
    told.append((k, path, e))
    if e[0] in PART_SPOTS:
        for i, spot in enumerate(PART_SPOTS[e[0]]):
            _walk_into(told, k, (*path, i), e[spot])
    elif e[0] == "call":
        for i, part in enumerate(e[2]):
            _walk_into(told, k, (*path, i), part)


def walk(rows):
    """A tuple (k, path, e) for each place, rows rising, each expression ahead of its parts."""
    told = []
    for k, (_, whole) in enumerate(rows):
        _walk_into(told, k, (), whole)
    return told


def places_below(k, path, e):
    """The places of an expression's parts, the expression's own being (k, path)."""
    return [(k, (*path, i)) for i in range(len(parts_of(e)))]


def targets_of(module):
    """The targets of a module, in the order of rows."""
    return [x for targets, _ in module[3] for x in targets]


def flows_of(module):
    """The flows of a module: its ins, then its targets."""
    return list(module[1]) + targets_of(module)


def calls_of(module):
    """A tuple (k, targets, call) for each row that is a call."""
    return [(k, targets, e) for k, (targets, e) in enumerate(module[3]) if e[0] == "call"]
