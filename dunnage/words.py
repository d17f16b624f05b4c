"""Words, as they stand on pages and in the lines of a desk, and the numbers and rows that they tell.

What is not written as it must be is refused with NoText(1): a row of words is a text of one row.
"""

from dunnage.asked import ASKED_THINGS
from dunnage.deeds import DEED_THINGS
from dunnage.errors import NoText

FIGURES = "0123456789"
MOST_FIGURES = 10
BEAM_WORD = "-"


def number_in(word):
    figures = word.removeprefix("-")
    if not 1 <= len(figures) <= MOST_FIGURES or not all([figure in FIGURES for figure in figures]):
        raise NoText(1)
    number = int(word)
    # A needless nought, or a sign ahead of nought, is not written again.
    if str(number) != word:
        raise NoText(1)
    return number


def thing_in(word, kind):
    if word == "":
        raise NoText(1)
    if kind == "number":
        return number_in(word)
    if kind == "upper" and word == BEAM_WORD:
        return ""
    return word


def row_in(words, kinds):
    """The row of a first text and of things of these kinds."""
    if len(words) != 1 + len(kinds):
        raise NoText(1)
    things = [thing_in(word, kind) for word, kind in zip(words[1:], kinds)]
    return (words[0], *things)


def deed_in(words):
    if len(words) == 0 or words[0] not in DEED_THINGS:
        raise NoText(1)
    return row_in(words, DEED_THINGS[words[0]])


def asked_in(words):
    if len(words) == 0 or words[0] not in ASKED_THINGS:
        raise NoText(1)
    return row_in(words, ASKED_THINGS[words[0]])


def words_of(deed):
    # No name is empty, so that an empty text is the beam wherever it stands.
    return [BEAM_WORD if thing == "" else str(thing) for thing in deed]
