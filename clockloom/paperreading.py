"""Texts of papers read sign by sign, up to the first sign that no such text can have there."""

from clockloom.errors import NoText
from clockloom.paperwords import WORDS, is_bare
from clockloom.things import SMALL

FIGURES = "0123456789"
AT_ONCE = 60
ENDS = {"(": ")", "[": "]", "{": "}"}
ESCAPED = {"'": "'", "^": "^", "n": "\n"}


def _number_of(figures):
    """The number that figures write, so many that int itself may not read them all at once."""
    begin = len(figures) % AT_ONCE
    told = int(figures[:begin]) if begin else 0
    for at in range(begin, len(figures), AT_ONCE):
        told = told * 10 ** 60 + int(figures[at:at + AT_ONCE])
    return told


class Bracket:
    """A bracket that is open: its sign, the things read in it, and of a dict their keys."""

    def __init__(self, sign):
        self.sign = sign
        self.things = []
        self.names = []

    def made(self):
        """What the bracket writes."""
        if self.sign == "(":
            return tuple(self.things)
        if self.sign == "[":
            return self.things
        return {name: thing for name, thing in zip(self.names, self.things)}


class PaperReader:
    """Reads a text; what is still open stands in a list, so no depth of it is a depth of calls."""

    def __init__(self, text, most):
        self._text = text
        self._most = most
        self._at = 0
        self._open = []

    def _sign(self):
        return self._text[self._at] if self._at < len(self._text) else ""

    def _take(self, sign):
        if self._sign() != sign:
            self._break_off(self._at)
        self._at += 1

    def _break_off(self, at):
        raise NoText(0, at)

    def whole(self):
        """Reads it and tells the thing."""
        while True:
            sign = self._sign()
            if sign and sign in "([{":
                self._open_bracket(sign)
                if self._sign() != ENDS[sign]:
                    self._key_if_any()
                    continue
                thing = self._closed()
            else:
                thing = self._atom(sign)
            while self._open and self._ends_with(thing):
                thing = self._closed()
            if not self._open:
                if self._at < len(self._text):
                    self._break_off(self._at)
                return thing

    def _open_bracket(self, sign):
        if len(self._open) >= self._most:
            self._break_off(self._at)
        self._at += 1
        self._open.append(Bracket(sign))

    def _closed(self):
        """Reads a bracket's end and tells what it writes."""
        self._at += 1
        return self._open.pop().made()

    def _ends_with(self, thing):
        """Puts a thing into the innermost bracket, and tells whether that ends there; else the next one begins."""
        bracket = self._open[-1]
        bracket.things.append(thing)
        if self._sign() == ENDS[bracket.sign]:
            return True
        self._take(" ")
        self._key_if_any()
        return False

    def _key_if_any(self):
        """Reads a key and the blank behind it, where the innermost bracket is a dict's."""
        bracket = self._open[-1]
        if bracket.sign != "{":
            return
        begin = self._at
        if self._sign() == "'":
            key = self._quoted()
        else:
            key = self._letters()
        if bracket.names and key <= bracket.names[-1]:
            self._break_off(begin)
        # A word for something else is no key; letters behind it could have made it one.
        if key in WORDS and self._text[begin] != "'":
            self._break_off(self._at)
        self._take(" ")
        bracket.names.append(key)

    def _atom(self, sign):
        if sign == "'":
            return self._quoted()
        if sign == "-" or (sign and sign in FIGURES):
            return self._number()
        word = self._letters()
        return WORDS[word] if word in WORDS else word

    def _some(self, signs):
        begin = self._at
        while self._at < len(self._text) and self._text[self._at] in signs:
            self._at += 1
        return self._text[begin:self._at]

    def _letters(self):
        told = self._some(SMALL)
        if not told:
            self._break_off(self._at)
        return told

    def _number(self):
        below = self._sign() == "-"
        if below:
            self._at += 1
        elif self._sign() == "0":
            self._at += 1
            return 0
        if self._sign() == "0":
            self._break_off(self._at)
        figures = self._some(FIGURES)
        if not figures:
            self._break_off(self._at)
        return -_number_of(figures) if below else _number_of(figures)

    def _quoted(self):
        """Reads a text between two signs ', refused at the first one where it needs none."""
        begin = self._at
        self._at += 1
        told = []
        while self._sign() != "'":
            sign = self._sign()
            if not " " <= sign <= "~":
                self._break_off(self._at)
            self._at += 1
            if sign == "^":
                sign = self._escaped()
            told.append(sign)
        self._at += 1
        text = "".join(told)
        if is_bare(text):
            self._break_off(begin)
        return text

    def _escaped(self):
        sign = self._sign()
        if sign not in ESCAPED:
            self._break_off(self._at)
        self._at += 1
        return ESCAPED[sign]
