"""What rows are deeds, and what their names and numbers may be."""

from dunnage.errors import BadDeed

LETTERS = "abcdefghijklmnopqrstuvwxyz"
LONGEST_NAME = 8
FARTHEST_PLACE = 1000000
HIGHEST_COURSE = 9
GREATEST_WEIGHT = 1000000000

# What stands behind the first text of a deed; as a cord's upper board the beam may stand.
DEED_THINGS = {
    "trestle": ("name", "number", "number", "number"),
    "board": ("name", "number", "number", "number", "number"),
    "away": ("name",),
    "along": ("name", "number"),
    "sack": ("name", "name", "number", "number"),
    "move": ("name", "name", "number"),
    "lift": ("name",),
    "cord": ("name", "upper", "name", "number"),
    "cut": ("name",),
}


def check_form(deed):
    if len(deed) == 0 or deed[0] not in DEED_THINGS or len(deed) != 1 + len(DEED_THINGS[deed[0]]):
        raise BadDeed("a deed has a first text that is known, and as many things as belong to it")


def is_name(text):
    return 1 <= len(text) <= LONGEST_NAME and all([letter in LETTERS for letter in text])


def is_number(value):
    # Python takes True and False for integers; here they are no numbers.
    return isinstance(value, int) and not isinstance(value, bool)


def is_place(value):
    return is_number(value) and -FARTHEST_PLACE <= value <= FARTHEST_PLACE


def is_course(value):
    return is_number(value) and 1 <= value <= HIGHEST_COURSE


def is_weight(value):
    return is_number(value) and 1 <= value <= GREATEST_WEIGHT
