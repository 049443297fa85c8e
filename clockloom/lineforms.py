"""The forms of clocks, and of lines that show why there are none."""

from clockloom.things import is_whole
from clockloom.trees import is_spot

MOST_LINES = 2000

# How many numbers of lines stand in a reason of each word but row.
REASONS = {"turn": 1, "chain": 2, "carry": 2, "join": 2}


def _is_label(thing, known):
    """Whether a thing is a tuple of a flow that is known and a truth."""
    if not isinstance(thing, tuple) or len(thing) != 2:
        return False
    return isinstance(thing[0], str) and thing[0] in known and isinstance(thing[1], bool)


def is_clock(thing, known):
    """Whether a thing is a clock, of flows that are known."""
    if not isinstance(thing, tuple) or len(thing) != 2 or not isinstance(thing[1], tuple):
        return False
    return is_whole(thing[0]) and thing[0] >= 0 and all([_is_label(label, known) for label in thing[1]])


def _is_number(thing):
    return is_whole(thing) and thing >= 0


def _are_places(some, known):
    return all([(isinstance(place, str) or is_spot(place)) and place in known for place in some])


def _is_fact(thing, places, known):
    if not isinstance(thing, tuple) or len(thing) not in (3, 4):
        return False
    if thing[0] == "same":
        return len(thing) == 3 and _are_places(thing[1:], places)
    if thing[0] != "over" or len(thing) != 4:
        return False
    return _are_places(thing[1:2], places) and _is_label(thing[2:], known)


def _is_reason(thing):
    if not isinstance(thing, tuple) or not thing or not isinstance(thing[0], str):
        return False
    many = 1 if thing[0] == "row" else REASONS.get(thing[0])
    return len(thing) - 1 == many and all([_is_number(number) for number in thing[1:]])


def _is_clash(thing):
    if not isinstance(thing, tuple) or len(thing) not in (2, 3):
        return False
    if thing[0] == "two":
        return len(thing) == 3 and all([_is_number(number) for number in thing[1:]])
    if thing[0] != "within" or len(thing) != 2:
        return False
    some = thing[1]
    return isinstance(some, list) and bool(some) and all([_is_number(number) for number in some])


def are_lines(thing, places, flows):
    """Whether a thing is by form a list of lines, of these places and flows, with a clash behind them."""
    if not isinstance(thing, list) or not thing or len(thing) > MOST_LINES + 1 or not _is_clash(thing[-1]):
        return False
    known_places = {place: True for place in places}
    known_flows = {x: True for x in flows}
    for line in thing[:-1]:
        if not isinstance(line, tuple) or len(line) != 2 or not _is_reason(line[1]):
            return False
        if not _is_fact(line[0], known_places, known_flows):
            return False
    return True
