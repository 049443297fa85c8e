"""Modules written as texts, and read of them."""

from clockloom.errors import NoText, Twice
from clockloom.linereading import Line, read_first_line, read_row
from clockloom.trees import MOST, check_module

SIGNS = {
    "sum": "+", "less": "-", "times": "*", "below": "<", "same": "=", "both": "AND", "either": "OR",
}


def _atom_text(e):
    if e[0] == "num":
        return str(e[1])
    if e[0] == "truth":
        return "TRUE" if e[1] else "FALSE"
    return e[1]


def _when_text(e):
    between = "WHEN" if e[3] else "UNLESS"
    return f"({_e_text(e[1])} {between} {e[2]})"


def _call_text(e):
    parts = ", ".join([_e_text(part) for part in e[2]])
    return f"{e[1]}({parts})"


def _e_text(e):
    word = e[0]
    if word in ("num", "truth", "flow"):
        return _atom_text(e)
    if word in SIGNS:
        return f"({_e_text(e[1])} {SIGNS[word]} {_e_text(e[2])})"
    if word == "not":
        return f"(NOT {_e_text(e[1])})"
    if word == "pick":
        return f"(IF {_e_text(e[1])} THEN {_e_text(e[2])} ELSE {_e_text(e[3])})"
    if word == "then":
        return f"({_atom_text(e[1])} THEN {_e_text(e[2])})"
    if word == "when":
        return _when_text(e)
    if word == "merge":
        return f"(MERGE {e[1]} {_e_text(e[2])} {_e_text(e[3])})"
    if word == "beats":
        return f"(BEATS {e[1]}({e[2]}))"
    return _call_text(e)


def _text_of(module):
    name, ins, outs, rows = module
    lines = [f"MODULE {name} ({', '.join(ins)}) OUT ({', '.join(outs)})"]
    for targets, e in rows:
        lines.append(f"{', '.join(targets)} = {_e_text(e)}")
    return "\n".join(lines)


def module_text(module):
    """The text of a module."""
    check_module(module)
    return _text_of(module)


def modules_text(modules):
    """The text of a list of modules."""
    for module in modules:
        check_module(module)
    return "\n\n".join([_text_of(module) for module in modules])


def _modules_by(text, most, several):
    """What the lines tell, be it modules or not; an empty line ends a module where there are several."""
    lines = text.split("\n")
    told = []
    begins = True
    for row, line in enumerate(lines):
        if begins:
            name, ins, outs = read_first_line(Line(line, row))
            told.append((name, ins, outs, []))
            begins = False
        elif several and line == "":
            begins = True
        else:
            rows = told[-1][3]
            if len(rows) >= most:
                raise NoText(row, 0)
            rows.append(read_row(Line(line, row)))
    if begins:
        raise NoText(len(lines), 0)
    return told


def read_module(text, *, most=MOST):
    """The module that a text writes."""
    module = _modules_by(text, most, False)[0]
    check_module(module)
    return module


def read_modules(text, *, most=MOST):
    """The list of modules that a text writes."""
    if text == "":
        return []
    modules = _modules_by(text, most, True)
    for module in modules:
        check_module(module)
    ahead = {}
    for module in modules:
        if module[0] in ahead:
            raise Twice(module[0])
        ahead[module[0]] = True
    return modules
