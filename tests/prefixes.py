"""A slow reader of lines, written straight from the forms of 11, for tests of where lines break off.

It follows all forms that a line may still have at once, sign by sign, and knows nothing of the
program's own reader.
"""

SMALL = "abcdefghijklmnopqrstuvwxyz"
FIGURES = "0123456789"
SIGNS = ("+", "-", "*", "<", "=", "AND", "OR")


def count(signs, least, most):
    """What may stand where from least to most of some signs stand."""
    return ("count", signs, least, most)


NAME = count(SMALL, 1, 8)
E, K, NUM = "<e>", "<k>", "<num>"

FORMS = {
    NUM: [("0",), (("count", "123456789", 1, 1), ("count", FIGURES, 0, 11))],
    K: [(NUM,), ("TRUE",), ("FALSE",)],
    E: [
        (K,), (NAME,), ("(NOT ", E, ")"), ("(IF ", E, " THEN ", E, " ELSE ", E, ")"),
        ("(", K, " THEN ", E, ")"), ("(", E, " WHEN ", NAME, ")"), ("(", E, " UNLESS ", NAME, ")"),
        ("(MERGE ", NAME, " ", E, " ", E, ")"),
        ("(BEATS ", count("01", 0, 60), "(", count("01", 1, 60), "))"),
        (NAME, "()"), (NAME, "(", E, "<parts>", ")"),
    ] + [("(", E, f" {sign} ", E, ")") for sign in SIGNS],
    "<parts>": [(), (", ", E, "<parts>")],
    "<names>": [(), (", ", NAME, "<names>")],
    "<some>": [(), (NAME, "<names>")],
    "<row>": [(NAME, "<names>", " = ", E)],
    "<first>": [("MODULE ", NAME, " (", "<some>", ") OUT (", "<some>", ")")],
}


def opened(stacks):
    """All stacks that stand ahead of a sign, or are at their end."""
    told, left = set(), list(stacks)
    seen = set(left)
    while left:
        stack = left.pop()
        if not stack:
            told.add(stack)
            continue
        first, rest = stack[0], stack[1:]
        more = []
        if isinstance(first, tuple):
            _, signs, least, most = first
            if most:
                told.add(stack)
            if least == 0:
                more.append(rest)
        elif first in FORMS:
            more += [form + rest for form in FORMS[first]]
        else:
            told.add(stack)
        for stack in more:
            if stack not in seen:
                seen.add(stack)
                left.append(stack)
    return told


def behind(stacks, sign):
    """The stacks behind one more sign."""
    told = set()
    for stack in stacks:
        if not stack:
            continue
        first, rest = stack[0], stack[1:]
        if isinstance(first, tuple):
            _, signs, least, most = first
            if sign in signs:
                told.add((("count", signs, max(0, least - 1), most - 1),) + rest)
        elif first[0] == sign:
            told.add(((first[1:],) + rest) if first[1:] else rest)
    return opened(told)


def breaks_at(kind, line):
    """How many signs of a line are the beginning of some line of a kind; None where it is one."""
    stacks = opened({(f"<{kind}>",)})
    for at, sign in enumerate(line):
        stacks = behind(stacks, sign)
        if not stacks:
            return at
    return None if () in stacks else len(line)
