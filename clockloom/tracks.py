"""Tracks: the sets, keeps and goes of a loop, one behind the other, and the ifs put around them.

Ifs may lie in one another deeper than calls may, so nothing here calls itself.
"""

from clockloom.deeds import set_deed


def shared_ifs(ahead, behind):
    """How many ifs a step at some conditions shares with the one ahead, and of these how many in the same list."""
    same = 0
    while same < len(ahead) and same < len(behind) and ahead[same] == behind[same]:
        same += 1
    if same < len(ahead) and same < len(behind) and ahead[same] == (behind[same][0], True):
        # An if's first list may be left for its second one, never the other way about.
        return (same + 1, same)
    return (same, same)


def track_of(steps):
    """The track of a loop's steps."""
    told = []
    left = list(steps)[::-1]
    while left:
        step = left.pop()
        if step[0] == "if":
            left.extend(step[3][::-1])
            left.extend(step[2][::-1])
        else:
            told.append(step)
    return told


def track_by_rows(rows):
    """A track that sets rows in this order, and keeps or goes as soon as that may be."""
    told = []
    done = {x: True for x in names_kept(rows)}
    for x, _, _ in rows:
        done[x] = False
    waiting = {}
    for x, deed, _ in rows:
        told.append(("set", x, set_deed(x, deed)))
        done[x] = True
        if deed[0] == "beats":
            told.append(("go", x))
        elif deed[0] == "then":
            y = deed[2][1]
            if deed[2][0] == "flow" and not done[y]:
                if y not in waiting:
                    waiting[y] = []
                waiting[y].append(("keep", x, deed[2]))
            else:
                told.append(("keep", x, deed[2]))
        told.extend(waiting.get(x, []))
    return told


def names_kept(rows):
    """The flat names of flows that thens keep."""
    return [deed[2][1] for _, deed, _ in rows if deed[0] == "then" and deed[2][0] == "flow"]


def steps_of(track, conditions_of):
    """The steps of a track in as few ifs as can be."""
    top = []
    lists = [top]
    opened = []
    ahead = ()
    for step in track:
        conditions = conditions_of[step[1]]
        shared, same = shared_ifs(ahead, conditions)
        del lists[same + 1:]
        del opened[shared:]
        if shared > same:
            lists.append(opened[-1][1])
        for c, b in conditions[shared:]:
            made = ([], [])
            lists[-1].append(("if", c, made[0], made[1]))
            opened.append(made)
            lists.append(made[0] if b else made[1])
        lists[-1].append(step)
        ahead = conditions
    return top


def many_ifs(track, conditions_of):
    """How many ifs these are."""
    told = 0
    ahead = ()
    for step in track:
        conditions = conditions_of[step[1]]
        told += len(conditions) - shared_ifs(ahead, conditions)[0]
        ahead = conditions
    return told
