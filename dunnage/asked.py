"""What may be asked for of a yard, and what each asking takes for granted."""

from dunnage.errors import BadAsk, BadWay
from dunnage.yard import board_row, check_on_board, cord_row, sack_row, trestle_row

# What stands behind the first text of a row that asks.
ASKED_THINGS = {"weight": ("name", "number"), "move": ("name",), "trestle": ("name",), "cord": ("name",)}

# The amount is sought upward or downward.
AIMS = {"most": 1, "least": -1}


def check_asked(yard, asked):
    """Refuse what cannot be asked for of the yard."""
    if len(asked) == 0 or asked[0] not in ASKED_THINGS or len(asked) != 1 + len(ASKED_THINGS[asked[0]]):
        raise BadAsk("asked for may be a weight, a move, a trestle or a cord")
    if asked[0] == "weight":
        check_on_board(board_row(yard, asked[1]), asked[2])
    elif asked[0] == "move":
        sack_row(yard, asked[1])
    elif asked[0] == "trestle":
        trestle_row(yard, asked[1])
    else:
        cord_row(yard, asked[1])


def check_way(way):
    if way not in AIMS:
        raise BadWay("the way is the most or the least")


def is_asked_end(asked, end):
    """Whether the end is one of the trestle or of the cord that is asked for."""
    if asked[0] == "trestle":
        return asked[1] in end[1:3]
    return asked[0] == "cord" and asked[1] == end[0]


def moved_board(yard, asked):
    """The row of the board on which the sack that is to be moved stands."""
    return board_row(yard, sack_row(yard, asked[1])[1])


def from_left(yard, asked):
    """The yard that the amount is reckoned from: for a move a twin with the sack at its board's left."""
    if asked[0] != "move":
        return yard
    board = moved_board(yard, asked)
    other = yard.twin()
    other.do(("move", asked[1], board[0], board[2]))
    return other


def start(yard, asked):
    """The amount that the search counts from."""
    if asked[0] != "move":
        return 0
    return moved_board(yard, asked)[2]


def length(yard, asked):
    """How far beyond its start the amount can go; for a move alone there is such a bound."""
    if asked[0] != "move":
        return 0
    board = moved_board(yard, asked)
    return board[3] - board[2]
