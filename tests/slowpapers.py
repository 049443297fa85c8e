"""Slow answers about texts of papers, straight from 47: a writer that calls itself, and where texts break off."""

import re

from tests.prefixes import FORMS, SMALL, breaks_at, count

MANY = 10 ** 9
PLAIN = "".join(chr(number) for number in range(32, 127) if chr(number) not in "'^")

FORMS.update({
    "<paper>": [("<letters>",), ("0",), ("<whole>",), ("-", "<whole>"), ("<quoted>",), ("()",), ("[]",), ("{}",),
                ("(", "<paper>", "<papers>", ")"), ("[", "<paper>", "<papers>", "]"), ("{", "<pair>", "<pairs>", "}")],
    "<letters>": [(count(SMALL, 1, MANY),)],
    "<whole>": [(count("123456789", 1, 1), count("0123456789", 0, MANY))],
    "<quoted>": [("'", "<inner>", "'")],
    "<inner>": [(), (count(PLAIN, 1, 1), "<inner>"), ("^'", "<inner>"), ("^^", "<inner>"), ("^n", "<inner>")],
    "<papers>": [(), (" ", "<paper>", "<papers>")],
    "<pair>": [("<letters>", " ", "<paper>"), ("<quoted>", " ", "<paper>")],
    "<pairs>": [(), (" ", "<pair>", "<pairs>")],
})
TOKEN = re.compile(r"'(?:[^'^]|\^.)*'|[a-z]+|-?[0-9]+|[()\[\]{} ]")


def is_bare(text):
    """Whether a text is written without signs '."""
    return re.fullmatch("[a-z]+", text) is not None and text not in ("none", "yes", "no")


def slow_text(thing):
    """The text that writes a thing."""
    if thing is None:
        return "none"
    if thing is True or thing is False:
        return "yes" if thing else "no"
    if isinstance(thing, str):
        return thing if is_bare(thing) else "'" + re.sub("['^]", r"^\g<0>", thing).replace("\n", "^n") + "'"
    if isinstance(thing, tuple):
        return "(" + " ".join(slow_text(part) for part in thing) + ")"
    if isinstance(thing, list):
        return "[" + " ".join(slow_text(part) for part in thing) + "]"
    if isinstance(thing, dict):
        return "{" + " ".join(f"{slow_text(key)} {slow_text(thing[key])}" for key in sorted(thing)) + "}"
    return str(thing)


def deep_of(thing):
    """How many tuples, lists and dicts lie within one another."""
    if isinstance(thing, dict):
        thing = list(thing.values())
    if isinstance(thing, (tuple, list)):
        return 1 + max([deep_of(part) for part in thing], default=0)
    return 0


def value_of(token):
    """The text that a token writes."""
    return token if token[0] != "'" else re.sub(r"\^(.)", lambda found: {"n": "\n"}.get(found[1], found[1]), token[1:-1])


def slow_at(text, deep=40):
    """How many signs of a text are the beginning of some text of a paper; None where it is one."""
    at = breaks_at("paper", text)
    end = len(text) if at is None else at
    stack, place = [], 0  # for each open bracket its sign, how many things stand in it, and its last key
    while place < end:
        found = TOKEN.match(text, place, end)
        if found is None:
            break
        token, begin, place = found[0], place, found.end()
        if token in "([{":
            if len(stack) >= deep:
                return begin
            stack.append([token, 0, None])
            continue
        if token == " ":
            continue
        if token in ")]}":
            stack.pop()
        elif token[0] == "'" and is_bare(value_of(token)):
            return begin
        elif stack and stack[-1][0] == "{" and stack[-1][1] % 2 == 0:
            if stack[-1][2] is not None and value_of(token) <= stack[-1][2]:
                return begin
            if token in ("none", "yes", "no") and place < len(text):
                return place
            stack[-1][2] = value_of(token)
        if stack:
            stack[-1][1] += 1
    return at
