"""A judge of what is told of clocks: tables that may be any, and lines that must be forced."""

from clockloom.books import called_first
from clockloom.clockfacts import clocked, facts_of, first_faceless, first_not_plain
from clockloom.facing import seen_among
from clockloom.lineforms import are_lines, is_clock
from clockloom.shapes import flows_of
from clockloom.things import is_name, is_whole
from clockloom.trees import is_spot


def _is_paper(module, paper):
    if not isinstance(paper, tuple) or len(paper) not in (2, 3):
        return False
    if paper[0] == "plain":
        return len(paper) == 3 and all([is_whole(number) and number >= 0 for number in paper[1:]])
    if len(paper) == 3:
        return False
    word, thing = paper
    if word == "inner":
        return is_name(thing)
    if word == "clocks":
        return isinstance(thing, list)
    return word == "clash" and are_lines(thing, clocked(module), flows_of(module))


def _is_table(module, table):
    """Whether a list has a tuple (place, clock) for each place, in order."""
    expected = clocked(module)
    known = {x: True for x in flows_of(module)}
    if len(table) != len(expected):
        return False
    for line, place in zip(table, expected):
        if not isinstance(line, tuple) or len(line) != 2 or not is_clock(line[1], known):
            return False
        if not (isinstance(line[0], str) or is_spot(line[0])) or line[0] != place:
            return False
    return True


def _stand_so(fact, clock_of):
    """Whether two clocks stand to one another as a fact tells."""
    clock = clock_of[fact[1]]
    root, conditions = clock_of[fact[2]]
    if fact[0] == "over":
        conditions = conditions + ((fact[2], fact[3]),)
    return clock == (root, conditions)


def _table_judged(facts, table):
    """("clock", i) of the first clock that doesn't stand to itself and those ahead as the facts tell."""
    number_of = {place: i for i, (place, _) in enumerate(table)}
    clock_of = {place: clock for place, clock in table}
    wrong = [
        max(number_of[fact[1]], number_of[fact[2]]) for fact, _ in facts if not _stand_so(fact, clock_of)
    ]
    if wrong:
        return ("clock", min(wrong))
    return None


def _by_rows(facts):
    """The facts by the rows that tell them, a same either way about, each as (fact, k)."""
    told = {}
    for fact, k in facts:
        told[(fact, k)] = True
        if fact[0] == "same":
            told[(("same", fact[2], fact[1]), k)] = True
    return told


def _by_two(word, fact, one, other):
    """Whether a fact comes of two facts ahead by a reason of this word."""
    if word == "chain":
        ends = (one[0], other[0], fact[0]) == ("same", "same", "same")
        return ends and one[2] == other[1] and fact == ("same", one[1], other[2])
    if word == "carry":
        return (one[0], other[0]) == ("same", "over") and one[2] == other[1] and fact == ("over", one[1], *other[2:])
    # The last word is join.
    return (one[0], other[0]) == ("over", "over") and one[2:] == other[2:] and fact == ("same", one[1], other[1])


def _is_forced(at, line, lines, by_rows):
    """Whether the line of this number is right, all ahead of it being so."""
    fact, reason = line
    if reason[0] == "row":
        return (fact, reason[1]) in by_rows
    if not all([i < at for i in reason[1:]]):
        return False
    if reason[0] == "turn":
        one = lines[reason[1]][0]
        return one[0] == "same" and fact == ("same", one[2], one[1])
    return _by_two(reason[0], fact, lines[reason[1]][0], lines[reason[2]][0])


def _is_clash(clash, lines):
    """Whether what stands behind right lines is a clash."""
    numbers = clash[1] if clash[0] == "within" else list(clash[1:])
    if not all([i < len(lines) for i in numbers]):
        return False
    facts = [lines[i][0] for i in numbers]
    if not all([fact[0] == "over" for fact in facts]):
        return False
    if clash[0] == "two":
        one, other = facts
        return one[1] == other[1] and one[2:] != other[2:]
    # Each is of the flow over which the one ahead is, the first of that over which the last is.
    return all([facts[at][1] == facts[at - 1][2] for at in range(len(facts))])


def _lines_judged(facts, lines_and_clash):
    """("line", i) of the first line that isn't right, the clash being the last one."""
    lines = lines_and_clash[:-1]
    by_rows = _by_rows(facts)
    for at, line in enumerate(lines):
        if not _is_forced(at, line, lines, by_rows):
            return ("line", at)
    if not _is_clash(lines_and_clash[-1], lines):
        return ("line", len(lines))
    return None


def clocks_judged(book, name, paper):
    """None where a paper of clocks is right of a module, else the first that is not so."""
    modules = called_first(book, name)
    module = modules[-1]
    if not _is_paper(module, paper):
        return ("paper",)
    seen = seen_among(book, modules[:-1])
    faceless = first_faceless(module, seen)
    if paper[0] == "inner":
        return None if faceless == paper[1] else ("inner",)
    if faceless is not None:
        return ("inner",)
    not_plain = first_not_plain(module, seen)
    if paper[0] == "plain":
        return None if not_plain == paper[1:] else ("plain",)
    if not_plain is not None:
        return ("plain",)
    facts = facts_of(module, seen)
    if paper[0] == "clash":
        return _lines_judged(facts, paper[1])
    if not _is_table(module, paper[1]):
        return ("table",)
    return _table_judged(facts, paper[1])
