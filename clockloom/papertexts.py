"""Papers, tables and all else that is told but objects, written as texts and read of them."""

from clockloom.errors import TooDeep
from clockloom.paperreading import PaperReader
from clockloom.paperwords import is_bare, may_lie_within

MOST_DEEP = 40


def _text_of_text(text):
    if is_bare(text):
        return text
    inner = text.replace("^", "^^").replace("'", "^'").replace("\n", "^n")
    return f"'{inner}'"


def _atom_text(thing):
    if thing is None:
        return "none"
    if isinstance(thing, bool):
        return "yes" if thing else "no"
    if isinstance(thing, str):
        return _text_of_text(thing)
    return str(thing)


def _within_brackets(thing):
    """The signs around a tuple, list or dict, and a tuple (text ahead, part) for each part."""
    if isinstance(thing, dict):
        return ("{", "}", [(_text_of_text(key) + " ", thing[key]) for key in sorted(thing)])
    parts = [("", part) for part in thing]
    return ("(", ")", parts) if isinstance(thing, tuple) else ("[", "]", parts)


def paper_text(thing, *, deep=MOST_DEEP):
    """The text that writes a thing."""
    most = may_lie_within(deep)
    told = []
    # What is left to be written, the next one last: a text, a thing behind it, and how many
    # brackets lie around that; of a text alone these are None.
    left = [("", thing, 0)]
    while left:
        text, part, within = left.pop()
        told.append(text)
        if within is None:
            continue
        if not isinstance(part, (tuple, list, dict)):
            told.append(_atom_text(part))
            continue
        if within >= most:
            raise TooDeep("too much lies within one another")
        begin, end, parts = _within_brackets(part)
        told.append(begin)
        left.append((end, None, None))
        for at in range(len(parts) - 1, -1, -1):
            ahead, inner = parts[at]
            left.append((" " + ahead if at else ahead, inner, within + 1))
    return "".join(told)


def read_paper(text, *, deep=MOST_DEEP):
    """The thing that a text writes."""
    return PaperReader(text, may_lie_within(deep)).whole()
