"""What texts of papers are made of: words without signs around them, and brackets."""

from clockloom.things import SMALL

# A paper in which more brackets than these lie within one another is ever too deep.
MOST_BRACKETS = 100

WORDS = {"none": None, "yes": True, "no": False}


def is_bare(text):
    """Whether a text stands in a paper as it is."""
    return text != "" and not text.strip(SMALL) and text not in WORDS


def may_lie_within(deep):
    """How many brackets may lie within one another."""
    return min(deep, MOST_BRACKETS)
