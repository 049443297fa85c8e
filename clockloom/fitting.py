"""A quick look whether expressions fit a module; which one doesn't, and why, it doesn't tell."""

from clockloom.shapes import NAME_SPOTS, OWN_FORMS, PART_SPOTS, SIZES

MOST_EXPRESSIONS = 200
MOST_WITHIN = 8

# How many things stand in the tuple of each word whose parts are all that stands behind it.
ALL_PARTS = {
    "sum": 3, "less": 3, "times": 3, "below": 3, "same": 3, "both": 3, "either": 3, "not": 2, "pick": 4,
}


def _own_parts(e, word, known):
    """The parts of an expression of another word, or a call; None where it doesn't fit."""
    if SIZES.get(word) != len(e):
        return None
    own_form = OWN_FORMS[word]
    if not own_form(e):
        return None
    if word == "call":
        return e[2]
    if word in NAME_SPOTS and e[NAME_SPOTS[word]] not in known:
        return None
    return [e[spot] for spot in PART_SPOTS.get(word, ())]


def _all_parts(level, known, may_call):
    """The parts of all expressions together; None where one of these doesn't fit."""
    parts = []
    for e in level:
        if not isinstance(e, tuple) or not e or not isinstance(e[0], str):
            return None
        word = e[0]
        if word == "flow":
            if len(e) != 2 or not isinstance(e[1], str) or e[1] not in known:
                return None
        elif word in ALL_PARTS:
            if len(e) != ALL_PARTS[word]:
                return None
            parts.extend(e[1:])
        else:
            own = None if word == "call" and not may_call else _own_parts(e, word, known)
            if own is None:
                return None
            parts.extend(own)
    return parts


def many_fitting(rows, known):
    """How many expressions stand in rows that all fit, their names being among those known; else None."""
    for targets, whole in rows:
        if len(targets) > 1 and not (isinstance(whole, tuple) and whole and whole[0] == "call"):
            return None
    level = [whole for _, whole in rows]
    many = 0
    within = 0
    while level:
        many += len(level)
        within += 1
        if within > MOST_WITHIN or many > MOST_EXPRESSIONS:
            return None
        level = _all_parts(level, known, within == 1)
        if level is None:
            return None
    return many
