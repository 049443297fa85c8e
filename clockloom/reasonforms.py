"""The forms of papers for drives."""

from clockloom.things import is_whole

MOST_BEATS = 5000


def _is_lane(thing, many):
    return is_whole(thing) and 0 <= thing < many


def _is_reason(thing, words, many):
    """Whether a thing is a tuple of one of some words and a lane's number."""
    if not isinstance(thing, tuple) or len(thing) != 2 or not isinstance(thing[0], str):
        return False
    return thing[0] in words and _is_lane(thing[1], many)


def _is_line(thing, many):
    if not isinstance(thing, tuple) or len(thing) != 3 or not isinstance(thing[1], str):
        return False
    beat, _, reason = thing
    if beat is None:
        return _is_reason(reason, ("empty", "full"), many)
    if not is_whole(beat):
        return False
    return reason in (("begin",), ("own",)) or _is_reason(reason, ("worth", "room"), many)


def is_paper(thing, many):
    """Whether a thing is by form a paper for a drive of a net with so many lanes."""
    if not isinstance(thing, tuple) or len(thing) != 3:
        return False
    one, other, lines = thing
    if not is_whole(one) or not is_whole(other) or not 0 <= one < other <= MOST_BEATS:
        return False
    return isinstance(lines, list) and all([_is_line(line, many) for line in lines])
