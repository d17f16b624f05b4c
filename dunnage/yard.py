"""A yard: its boards, trestles, sacks and cords, and the deeds that change them.

Each deed asks all its refusals, in their order, before it changes anything.
Messages tell no numbers: Python refuses to write very long ones.
"""

from dunnage.deeds import check_form, is_course, is_name, is_number, is_place, is_weight
from dunnage.errors import (
    BadCord, BadCourse, BadName, BadPlace, BadWeight, Crowded, Full, InUse, NoCord, NoSack, NoThing, Taken,
)

MOST_BOARDS = 6
MOST_TRESTLES = 6
MOST_SACKS = 8
MOST_CORDS = 4

BEAM = ""
# The beam as a row like a board's: above every course, and at every place.
BEAM_ROW = ("", 10, -1000000, 1000000)


def check_new_name(yard, name):
    if not is_name(name):
        raise BadName("a name has 1 to 8 letters from a to z")
    for rows in (yard.board_rows, yard.trestle_rows, yard.sack_rows, yard.cord_rows):
        if name in rows:
            raise Taken(f"{name} is another thing's name")


def check_course(course):
    if not is_course(course):
        raise BadCourse("a course is a number from 1 to 9")


def check_places(left, right):
    if not is_place(left) or not is_place(right):
        raise BadPlace("an end is no place")


def check_weight(weight):
    if not is_weight(weight):
        raise BadWeight("a weight is a number from 1 to 1000000000")


def check_count(rows, most):
    if len(rows) >= most:
        raise Full("there are as many of that kind as there may be")


def check_room(yard, name, course, left, right):
    for row in list(yard.board_rows.values()) + list(yard.trestle_rows.values()):
        # A thing that is shifted leaves its own old stretch free.
        if row[0] == name or row[1] != course:
            continue
        if max(left, row[2]) < min(right, row[3]):
            raise Crowded(f"{name} would share more than one place with {row[0]}")


def check_on_board(row, place):
    if not is_place(place) or not row[2] <= place <= row[3]:
        raise BadPlace(f"that place is not on {row[0]}")


def board_row(yard, name):
    if name not in yard.board_rows:
        raise NoThing(f"there is no board {name!r}")
    return yard.board_rows[name]


def trestle_row(yard, name):
    if name not in yard.trestle_rows:
        raise NoThing(f"there is no trestle {name!r}")
    return yard.trestle_rows[name]


def board_or_trestle_row(yard, name):
    if name in yard.trestle_rows:
        return yard.trestle_rows[name]
    if name in yard.board_rows:
        return yard.board_rows[name]
    raise NoThing(f"there is no board or trestle {name!r}")


def sack_row(yard, name):
    if name not in yard.sack_rows:
        raise NoSack(f"there is no sack {name!r}")
    return yard.sack_rows[name]


def cord_row(yard, name):
    if name not in yard.cord_rows:
        raise NoCord(f"there is no cord {name!r}")
    return yard.cord_rows[name]


def check_no_cord(yard, name):
    for row in yard.cord_rows.values():
        if row[1] == name or row[2] == name:
            raise InUse(f"the cord {row[0]} is tied to {name}")


def check_no_sack(yard, name):
    for row in yard.sack_rows.values():
        if row[1] == name:
            raise InUse(f"the sack {row[0]} stands on {name}")


def set_trestle(yard, name, course, left, right):
    check_new_name(yard, name)
    check_course(course)
    check_places(left, right)
    if left > right:
        raise BadPlace("a trestle's left is no greater than its right")
    check_count(yard.trestle_rows, MOST_TRESTLES)
    check_room(yard, name, course, left, right)
    yard.trestle_rows[name] = (name, course, left, right)


def lay_board(yard, name, course, left, right, weight):
    check_new_name(yard, name)
    check_course(course)
    check_places(left, right)
    if left >= right:
        raise BadPlace("a board's left is less than its right")
    check_weight(weight)
    check_count(yard.board_rows, MOST_BOARDS)
    check_room(yard, name, course, left, right)
    yard.board_rows[name] = (name, course, left, right, weight)


def take_away(yard, name):
    board_or_trestle_row(yard, name)
    check_no_sack(yard, name)
    check_no_cord(yard, name)
    if name in yard.trestle_rows:
        del yard.trestle_rows[name]
    else:
        del yard.board_rows[name]


def shift_along(yard, name, by):
    row = board_or_trestle_row(yard, name)
    if not is_number(by):
        raise BadPlace("a thing is shifted by a number of places")
    course, left, right = row[1], row[2] + by, row[3] + by
    check_places(left, right)
    check_no_cord(yard, name)
    check_room(yard, name, course, left, right)
    if name in yard.trestle_rows:
        yard.trestle_rows[name] = (name, course, left, right)
    else:
        yard.board_rows[name] = (name, course, left, right, row[4])
        shift_sacks(yard, name, by)


def shift_sacks(yard, board, by):
    for row in list(yard.sack_rows.values()):
        if row[1] == board:
            yard.sack_rows[row[0]] = (row[0], board, row[2] + by, row[3])


def set_sack(yard, name, board, place, weight):
    check_new_name(yard, name)
    check_on_board(board_row(yard, board), place)
    check_weight(weight)
    check_count(yard.sack_rows, MOST_SACKS)
    yard.sack_rows[name] = (name, board, place, weight)


def move_sack(yard, name, board, place):
    row = sack_row(yard, name)
    check_on_board(board_row(yard, board), place)
    yard.sack_rows[name] = (name, board, place, row[3])


def lift_sack(yard, name):
    sack_row(yard, name)
    del yard.sack_rows[name]


def tie_cord(yard, name, upper, lower, place):
    check_new_name(yard, name)
    upper_row = BEAM_ROW if upper == BEAM else board_row(yard, upper)
    lower_row = board_row(yard, lower)
    if upper_row[1] <= lower_row[1]:
        raise BadCord(f"{upper} is not in a higher course than {lower}")
    check_on_board(upper_row, place)
    check_on_board(lower_row, place)
    check_count(yard.cord_rows, MOST_CORDS)
    yard.cord_rows[name] = (name, upper, lower, place)


def cut_cord(yard, name):
    cord_row(yard, name)
    del yard.cord_rows[name]


ACTIONS = {
    "trestle": set_trestle,
    "board": lay_board,
    "away": take_away,
    "along": shift_along,
    "sack": set_sack,
    "move": move_sack,
    "lift": lift_sack,
    "cord": tie_cord,
    "cut": cut_cord,
}


def rows_by_names(rows):
    return [rows[name] for name in sorted(rows)]


class Yard:
    """A yard, empty at first. Its rows are kept as they are told, each under its name."""

    def __init__(self):
        self.board_rows = {}
        self.trestle_rows = {}
        self.sack_rows = {}
        self.cord_rows = {}

    def do(self, deed):
        """Do a deed, or refuse it and change nothing."""
        check_form(deed)
        action = ACTIONS[deed[0]]
        things = deed[1:]
        action(self, *things)

    def boards(self):
        return rows_by_names(self.board_rows)

    def trestles(self):
        return rows_by_names(self.trestle_rows)

    def sacks(self):
        return rows_by_names(self.sack_rows)

    def cords(self):
        return rows_by_names(self.cord_rows)

    def twin(self):
        """A yard with the same things, that goes its own way from now on."""
        other = Yard()
        other.board_rows = dict(self.board_rows)
        other.trestle_rows = dict(self.trestle_rows)
        other.sack_rows = dict(self.sack_rows)
        other.cord_rows = dict(self.cord_rows)
        return other
