"""A judge of loops, which knows nothing of their making."""

from clockloom.books import MEASURE
from clockloom.deeds import set_deed
from clockloom.flatfacts import cells_of, conditions_by_name, names_in_deed
from clockloom.things import alike

# How many things stand in the tuple of each step.
SIZES = {"set": 3, "keep": 3, "go": 2, "if": 4}


def _is_step(thing):
    if not isinstance(thing, tuple) or len(thing) < 2 or not isinstance(thing[0], str):
        return False
    if SIZES.get(thing[0]) != len(thing) or not isinstance(thing[1], str):
        return False
    return thing[0] != "if" or (isinstance(thing[2], list) and isinstance(thing[3], list))


def _are_steps(steps):
    left = [steps]
    while left:
        some = left.pop()
        for step in some:
            if not _is_step(step):
                return False
            if step[0] == "if":
                left.append(step[2])
                left.append(step[3])
    return True


def _is_cell(thing):
    return isinstance(thing, tuple) and len(thing) == 2 and isinstance(thing[0], str)


def _is_loop(thing):
    if not isinstance(thing, tuple) or len(thing) != 2:
        return False
    cells, steps = thing
    if not isinstance(cells, list) or not isinstance(steps, list):
        return False
    return all([_is_cell(cell) for cell in cells]) and _are_steps(steps)


def _cells_right(flat, cells, measure):
    begins = {x: k for x, k in cells_of(flat, measure)}
    told = {x: True for x, _ in cells}
    if len(cells) != len(begins) or len(told) != len(cells):
        return False
    return all([x in begins and alike(k, begins[x]) for x, k in cells])


class Judging:
    """What is set, kept and gone so far, all of it rightly."""

    def __init__(self, flat):
        self.deeds = {x: deed for x, deed, _ in flat[2]}
        self.conditions = conditions_by_name(flat)
        self.known = {x: True for x, _, _ in flat[0]}
        self.sets = {}
        self.ends = {}

    def right(self, step, conditions):
        """Whether a step that stands at these conditions is right; if it is, it counts as done."""
        word, x = step[0], step[1]
        if word == "if":
            return x in self.known and self.conditions[x] == conditions
        if x not in self.deeds or self.conditions[x] != conditions:
            return False
        if word == "set":
            return self._set(x, step[2])
        if x not in self.sets or x in self.ends:
            return False
        self.ends[x] = True
        if word == "go":
            return self.deeds[x][0] == "beats"
        return self._keep(self.deeds[x], step[2])

    def _set(self, x, told):
        deed = set_deed(x, self.deeds[x])
        if x in self.sets or not alike(told, deed):
            return False
        if not all([y in self.known for y in names_in_deed(deed)]):
            return False
        self.sets[x] = True
        self.known[x] = True
        return True

    def _keep(self, deed, told):
        if deed[0] != "then" or not alike(told, deed[2]):
            return False
        return deed[2][0] != "flow" or deed[2][1] in self.known


def _step_wrong(judging, steps):
    """The path of the least step that isn't right, None where there is none."""
    # What is left: lists, the number of the next step, the conditions and the path of the list.
    left = [(steps, 0, (), ())]
    while left:
        some, at, conditions, path = left.pop()
        if at == len(some):
            continue
        step = some[at]
        if not judging.right(step, conditions):
            return (*path, at)
        left.append((some, at + 1, conditions, path))
        if step[0] == "if":
            left.append((step[3], 0, (*conditions, (step[1], False)), (*path, at, 1)))
            left.append((step[2], 0, (*conditions, (step[1], True)), (*path, at, 0)))
    return None


def _lacking(flat, judging):
    """What is never set, or never kept or gone, None where there is nothing."""
    for x, _, _ in flat[2]:
        if x not in judging.sets:
            return ("set", x)
    for x, deed, _ in flat[2]:
        if deed[0] in ("then", "beats") and x not in judging.ends:
            return ("keep", x)
    return None


def loop_judged(flat, loop, *, measure=MEASURE):
    """None where a loop is right of a flat module, else the first that is not so."""
    if not _is_loop(loop):
        return ("loop",)
    cells, steps = loop
    if not _cells_right(flat, cells, measure):
        return ("cells",)
    judging = Judging(flat)
    path = _step_wrong(judging, steps)
    if path is not None:
        return ("step", path)
    return _lacking(flat, judging)
