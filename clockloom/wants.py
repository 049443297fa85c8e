"""What wants what within one beat: wants, an order or a ring of them, and a judge of these."""

from clockloom.errors import NoFace
from clockloom.facing import seen_in


def _ordered(book, name):
    """What is Seen of a module, refused where it has no face, but never for a ring."""
    seen = seen_in(book, name)[name]
    if seen.order is None:
        raise NoFace(seen.paper)
    return seen


def wants(book, name):
    """A list of a tuple (target, flows) for each target of a module."""
    return [(target, list(flows)) for target, flows in _ordered(book, name).wants]


def order(book, name):
    """("order", targets), each behind those that it wants, or ("ring", targets)."""
    word, targets = _ordered(book, name).order
    return (word, list(targets))


def _is_paper(paper, wanted_by):
    if not isinstance(paper, tuple) or len(paper) != 2 or not isinstance(paper[1], list):
        return False
    if paper[0] not in ("order", "ring") or (paper[0] == "ring" and not paper[1]):
        return False
    return all([isinstance(x, str) and x in wanted_by for x in paper[1]])


def _order_judged(targets, wanted_by):
    number_of = {x: i for i, x in enumerate(targets)}
    if len(targets) != len(wanted_by) or len(number_of) != len(wanted_by):
        return ("all",)
    for i, target in enumerate(targets):
        if [x for x in wanted_by[target] if number_of.get(x, -1) >= i]:
            return ("order", i)
    return None


def _ring_judged(targets, wanted_by):
    for i, target in enumerate(targets):
        if targets[(i + 1) % len(targets)] not in wanted_by[target]:
            return ("ring", i)
    return None


def order_judged(book, name, paper):
    """None where a paper of order is right of a module, else the first that is not so."""
    wanted_by = {target: flows for target, flows in _ordered(book, name).wants}
    if not _is_paper(paper, wanted_by):
        return ("paper",)
    if paper[0] == "order":
        return _order_judged(paper[1], wanted_by)
    return _ring_judged(paper[1], wanted_by)
