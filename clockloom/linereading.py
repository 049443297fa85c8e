"""Lines read sign by sign, up to the first sign that no line of the kind can have there."""

from clockloom.errors import NoText
from clockloom.things import SMALL

FIGURES = "0123456789"
MOST_OPEN = 100

# Behind the first part of a bracket and a blank: by the next sign, the word and what is written.
BETWEEN = {
    "+": ("sum", "+ "), "-": ("less", "- "), "*": ("times", "* "), "<": ("below", "< "),
    "=": ("same", "= "), "A": ("both", "AND "), "O": ("either", "OR "),
}


class Line:
    """A line and how many of its signs are read."""

    def __init__(self, text, row):
        self.text = text
        self.row = row
        self.at = 0

    def sign(self):
        """The next sign, a text without signs where there is none."""
        return self.text[self.at] if self.at < len(self.text) else ""

    def break_off(self):
        """Refuses the line, which goes wrong at the next sign."""
        raise NoText(self.row, self.at)

    def take(self, text):
        """Reads just this text."""
        if self.text.startswith(text, self.at):
            self.at += len(text)
            return
        for sign in text:
            if self.sign() != sign:
                self.break_off()
            self.at += 1

    def some(self, signs, most):
        """Reads as many of these signs as stand next, up to most, and tells them."""
        begin = self.at
        end = min(len(self.text), begin + most)
        while self.at < end and self.text[self.at] in signs:
            self.at += 1
        return self.text[begin:self.at]

    def one_or_more(self, signs, most):
        """Reads as some does, but one sign at least."""
        told = self.some(signs, most)
        if not told:
            self.break_off()
        return told

    def one_name(self):
        """Reads a NAME."""
        return self.one_or_more(SMALL, 8)

    def some_names(self):
        """Reads one NAME or more."""
        told = [self.one_name()]
        while self.sign() == ",":
            self.take(", ")
            told.append(self.one_name())
        return tuple(told)

    def names_in_brackets(self):
        """Reads a bracket with NAMES in it, or none."""
        told = ()
        self.take("(")
        if self.sign() != ")":
            told = self.some_names()
        self.take(")")
        return told

    def end_line(self):
        """Refuses signs that are left."""
        if self.at < len(self.text):
            self.break_off()


class ExpressionReader:
    """Reads the expression that stands next in a line.

    What is still to be read stands in tasks, the next one last, and what is read
    and not yet put into a greater one in read: so no depth of brackets is a depth of calls.
    """

    def __init__(self, line):
        self.line = line
        self.tasks = []
        self.read = []
        self.many_brackets = 0

    def whole(self):
        """Reads it and tells it."""
        self._next_tasks([("expression", None)])
        while self.tasks:
            task, thing = self.tasks.pop()
            if task == "expression":
                self._expression()
            elif task == "text":
                self.line.take(thing)
            elif task == "between":
                self._between()
            elif task == "call":
                self._call_goes_on(thing)
            else:
                self._close(thing)
        return self.read.pop()

    def _next_tasks(self, tasks):
        self.tasks.extend(tasks[::-1])

    def _expression(self):
        sign = self.line.sign()
        if sign == "(":
            self._bracket()
        elif sign == "T":
            self.line.take("TRUE")
            self.read.append(("truth", True))
        elif sign == "F":
            self.line.take("FALSE")
            self.read.append(("truth", False))
        elif sign == "0":
            self.line.take("0")
            self.read.append(("num", 0))
        elif sign and sign in FIGURES:
            self.read.append(("num", int(self.line.some(FIGURES, 12))))
        else:
            self._named()

    def _named(self):
        name = self.line.one_name()
        if self.line.sign() != "(":
            self.read.append(("flow", name))
            return
        self._begin_bracket()
        begin = len(self.read)
        if self.line.sign() == ")":
            self._call_goes_on((name, begin))
        else:
            self._next_tasks([("expression", None), ("call", (name, begin))])

    def _call_goes_on(self, call):
        if self.line.sign() == ",":
            self.line.take(", ")
            self._next_tasks([("expression", None), ("call", call)])
            return
        self._end_bracket()
        name, begin = call
        parts = self.read[begin:]
        del self.read[begin:]
        self.read.append(("call", name, parts))

    def _begin_bracket(self):
        if self.many_brackets == MOST_OPEN:
            self.line.break_off()
        self.line.take("(")
        self.many_brackets += 1

    def _end_bracket(self):
        self.line.take(")")
        self.many_brackets -= 1

    def _bracket(self):
        self._begin_bracket()
        sign = self.line.sign()
        if sign == "N":
            self.line.take("NOT ")
            self._next_tasks([("expression", None), ("close", ("not", None))])
        elif sign == "I":
            self._pick()
        elif sign == "M":
            self._merge()
        elif sign == "B":
            self._beats()
        else:
            self._next_tasks([("expression", None), ("between", None)])

    def _pick(self):
        self.line.take("IF ")
        self._next_tasks([
            ("expression", None), ("text", " THEN "), ("expression", None), ("text", " ELSE "),
            ("expression", None), ("close", ("pick", None, None, None)),
        ])

    def _merge(self):
        self.line.take("MERGE ")
        x = self.line.one_name()
        self.line.take(" ")
        self._next_tasks([
            ("expression", None), ("text", " "), ("expression", None),
            ("close", ("merge", x, None, None)),
        ])

    def _beats(self):
        self.line.take("BEATS ")
        head = self.line.some("01", 60)
        self.line.take("(")
        again = self.line.one_or_more("01", 60)
        self.line.take(")")
        self._close(("beats", head, again))

    def _between(self):
        self.line.take(" ")
        sign = self.line.sign()
        first = self.read[-1]
        if sign in BETWEEN:
            word, text = BETWEEN[sign]
            self.line.take(text)
            self._next_tasks([("expression", None), ("close", (word, None, None))])
        elif sign == "W":
            self._when("WHEN ", True)
        elif sign == "U":
            self._when("UNLESS ", False)
        elif sign == "T" and first[0] in ("num", "truth"):
            self.line.take("THEN ")
            self.read.pop()
            self._next_tasks([("expression", None), ("close", ("then", first, None))])
        else:
            self.line.break_off()

    def _when(self, text, truth):
        self.line.take(text)
        self._close(("when", None, self.line.one_name(), truth))

    def _close(self, shape):
        """Ends a bracket; what is read last comes where the shape has None."""
        self._end_bracket()
        holes = [spot for spot in range(len(shape)) if shape[spot] is None]
        begin = len(self.read) - len(holes)
        made = list(shape)
        for number, spot in enumerate(holes):
            made[spot] = self.read[begin + number]
        del self.read[begin:]
        self.read.append(tuple(made))


def read_first_line(line):
    """A module's name, ins and outs, by its first line."""
    line.take("MODULE ")
    name = line.one_name()
    line.take(" ")
    ins = line.names_in_brackets()
    line.take(" OUT ")
    outs = line.names_in_brackets()
    line.end_line()
    return (name, ins, outs)


def read_row(line):
    """A row, by its line."""
    targets = line.some_names()
    line.take(" = ")
    whole = ExpressionReader(line).whole()
    line.end_line()
    return (targets, whole)
