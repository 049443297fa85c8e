"""Questions that are asked of anything handed in, and copies of it."""

SMALL = "abcdefghijklmnopqrstuvwxyz"


def is_whole(thing):
    """Whether a thing is a whole number: an int that is no truth."""
    return isinstance(thing, int) and not isinstance(thing, bool)


def is_name(thing):
    """Whether a thing is a NAME: a text of one to eight small letters."""
    return isinstance(thing, str) and 1 <= len(thing) <= 8 and not thing.strip(SMALL)


def is_signs(thing):
    """Whether a thing is a text of signs 0 and 1, or without signs."""
    return isinstance(thing, str) and not thing.strip("01")


def fresh(thing):
    """The same thing, with new lists and dicts all the way down."""
    if isinstance(thing, list):
        return [fresh(part) for part in thing]
    if isinstance(thing, tuple):
        return tuple([fresh(part) for part in thing])
    if isinstance(thing, dict):
        return {key: fresh(thing[key]) for key in thing}
    return thing


def alike(one, other):
    """Whether two things, of which one has no lists, are the same, a truth never the same as a number."""
    if isinstance(one, tuple) and isinstance(other, tuple):
        return len(one) == len(other) and all([alike(part, beside) for part, beside in zip(one, other)])
    return isinstance(one, bool) == isinstance(other, bool) and one == other
