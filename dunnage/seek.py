"""Whether a yard stands, and the edges of what may be asked for, each with what shows it.

Each board has two sums: its weights, and twice its weights each taken as often as its place tells (twice, since a
middle may lie at a half). Pushes are the amounts that meet them. What the sums are worth is a motion.
"""

from dunnage.asked import AIMS, check_asked, check_way, from_left, is_asked_end, length, start
from dunnage.parts import part, raw_sum, times
from dunnage.solve import solve
from dunnage.touch import ends, raised_and_pressed, weights
from dunnage.yard import sack_row


def board_spots(yard):
    """Where each board's first sum stands among the sums."""
    return {row[0]: 2 * at for at, row in enumerate(yard.boards())}


def end_column(end, spots):
    """What a push of one at the end adds to each sum."""
    column = [0] * (2 * len(spots))
    raised, pressed = raised_and_pressed(end)
    for thing, sign in ((raised, 1), (pressed, -1)):
        if thing in spots:
            column[spots[thing]] = sign
            column[spots[thing] + 1] = 2 * sign * end[3]
    return column


def end_columns(yard):
    spots = board_spots(yard)
    return [end_column(end, spots) for end in ends(yard)]


def weight_totals(yard):
    spots = board_spots(yard)
    totals = [0] * (2 * len(spots))
    for board, place, weight in weights(yard):
        totals[spots[board]] += weight[0]
        totals[spots[board] + 1] += weight[0] * (2 * place[0] // place[1])
    return totals


def more_weight_column(yard, asked):
    """What a weight of one more takes from each sum."""
    # It takes away what a push up there would add.
    column = end_column(("", asked[1], "", asked[2]), board_spots(yard))
    return [-number for number in column]


def sack_shift_column(yard, asked):
    """What a shift of the sack by one place to the right takes from each sum."""
    name, board, place, weight = sack_row(yard, asked[1])
    spots = board_spots(yard)
    column = [0] * (2 * len(spots))
    column[spots[board] + 1] = -2 * weight
    return column


def posed(yard, asked):
    """The columns, the totals, and how much of each column's amount belongs to the amount that is asked for."""
    columns = end_columns(yard)
    totals = weight_totals(from_left(yard, asked))
    shares = [1 if is_asked_end(asked, end) else 0 for end in ends(yard)]
    if asked[0] == "weight":
        return (columns + [more_weight_column(yard, asked)], totals, shares + [1])
    if asked[0] == "move":
        # One more sum: the shift and the room that is left are the board's length together.
        columns = [column + [0] for column in columns]
        columns.append(sack_shift_column(yard, asked) + [1])
        columns.append([0] * len(totals) + [1])
        return (columns, totals + [length(yard, asked)], shares + [1, 0])
    return (columns, totals, shares)


def pushes_of(yard, amounts):
    """The rows of pushes; amounts behind those of the ends are left out."""
    return [(end[0], end[1], end[2], end[3], amount) for end, amount in zip(ends(yard), amounts)]


def motion_of(yard, worths):
    return [(row[0], worths[2 * at], times((2, 1), worths[2 * at + 1])) for at, row in enumerate(yard.boards())]


def stop_of(yard, worths):
    """The worth of a move's one more sum; without it, nought."""
    behind = worths[2 * len(yard.boards()):]
    return behind[0] if behind else (0, 1)


def share_sum(amounts, shares):
    top, bottom = raw_sum([amount for amount, share in zip(amounts, shares) if share == 1])
    return part(top, bottom)


def by_one(steps, shares):
    """The steps so taken that they bring the amount that is asked for on by one."""
    gain = share_sum(steps, shares)
    return [times(step, (gain[1], gain[0])) for step in steps]


def stands(yard):
    """("stands", pushes) or ("falls", motion)."""
    columns = end_columns(yard)
    answer = solve(columns, weight_totals(yard), [0] * len(columns))
    if answer[0] == "none":
        return ("falls", motion_of(yard, answer[1]))
    return ("stands", pushes_of(yard, answer[1]))


def edge(yard, asked, way):
    """("edge", amount, pushes, motion, stop), ("never", motion, stop) or ("any", amount, pushes, growing)."""
    check_asked(yard, asked)
    check_way(way)
    columns, totals, shares = posed(yard, asked)
    answer = solve(columns, totals, [AIMS[way] * share for share in shares])
    if answer[0] == "none":
        return ("never", motion_of(yard, answer[1]), stop_of(yard, answer[1]))
    pushes = pushes_of(yard, answer[1])
    top, bottom = raw_sum([(start(yard, asked), 1), share_sum(answer[1], shares)])
    if answer[0] == "more":
        return ("any", part(top, bottom), pushes, pushes_of(yard, by_one(answer[2], shares)))
    return ("edge", part(top, bottom), pushes, motion_of(yard, answer[2]), stop_of(yard, answer[2]))
