"""Orders of names by what must stand ahead of them, and rings of names that have none."""


def _in_order(leads):
    """Those names, in order, that stand on no ring and lead to none."""
    waits = {x: len(leads[x]) for x in leads}
    behind = {x: [] for x in leads}
    for x in leads:
        for ahead in leads[x]:
            behind[ahead].append(x)
    ready = [x for x in leads if waits[x] == 0]
    at = 0
    while at < len(ready):
        ahead = ready[at]
        for x in behind[ahead]:
            waits[x] -= 1
            if waits[x] == 0:
                ready.append(x)
        at += 1
    return ready


def _ring_among(leads, left):
    """A ring among names each of which leads to another one of them."""
    seen = {}
    x = min(left)
    while x not in seen:
        seen[x] = len(seen)
        x = [ahead for ahead in leads[x] if ahead in left][0]
    return list(seen)[seen[x]:]


def order_of(leads):
    """("order", names) of a dict that leads each name to a list of names that stand ahead of it,
    each behind those, or ("ring", names), each leading to the next one, the last to the first."""
    ready = _in_order(leads)
    done = {x: True for x in ready}
    left = {x: True for x in leads if x not in done}
    if left:
        return ("ring", _ring_among(leads, left))
    return ("order", ready)


def first_order(leads):
    """The names of a dict as order_of gets it, without a ring, each behind those to which it leads;
    of those that may come next the first in the dict."""
    told = {}
    while len(told) < len(leads):
        ready = [x for x in leads if x not in told and all([ahead in told for ahead in leads[x]])]
        told[ready[0]] = True
    return list(told)
