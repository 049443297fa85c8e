"""Beats by words: each in that is there as its name, a sign = and its worth."""

from clockloom.errors import NoText, Twice
from clockloom.things import is_name

TRUTHS = {"yes": True, "no": False}
FIGURES = "0123456789"
MOST_FIGURES = 12


def _is_num(text):
    if not 1 <= len(text) <= MOST_FIGURES or text.strip(FIGURES):
        return False
    return text == "0" or text[0] != "0"


def beat_of(words):
    """The dict of worths that the words of a line tell, from the third one on."""
    told = {}
    at = len(words[0]) + 1 + len(words[1]) + 1
    for word in words[2:]:
        name, _, worth = word.partition("=")
        if not is_name(name) or not (worth in TRUTHS or _is_num(worth)):
            raise NoText(0, at)
        if name in told:
            raise Twice(name)
        told[name] = TRUTHS[worth] if worth in TRUTHS else int(worth)
        at += len(word) + 1
    return told


def _worth_text(worth):
    if worth is None:
        return "-"
    if isinstance(worth, bool):
        return "yes" if worth else "no"
    return str(worth)


def worths_text(outs):
    """The words that tell a dict of outs."""
    return " ".join([f"{out}={_worth_text(outs[out])}" for out in outs])
