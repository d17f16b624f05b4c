"""Pushes and motions, and what is shown by them, judged by adding up alone."""

from dunnage.asked import AIMS, check_asked, check_way, from_left, is_asked_end, length, start
from dunnage.motion import is_let, is_motion, lifted, rise_at, spreads
from dunnage.parts import less, opposite, part, raw_product, raw_sum
from dunnage.touch import ends, raised_and_pressed
from dunnage.yard import sack_row


def are_pushes(yard, pushes):
    return [row[:4] for row in pushes] == ends(yard) and all([row[4][0] >= 0 for row in pushes])


def as_weights(pushes):
    """The pushes as rows of weights: below nought on what is raised, above it on what is pressed."""
    rows = []
    for row in pushes:
        raised, pressed = raised_and_pressed(row)
        rows.append((raised, (row[3], 1), opposite(row[4])))
        rows.append((pressed, (row[3], 1), row[4]))
    return rows


def is_even(rows):
    """Whether weights on one board come to nought, and so do they each taken as often as its place tells."""
    plain = raw_sum([weight for board, place, weight in rows])
    turning = raw_sum([raw_product(place, weight) for board, place, weight in rows])
    return plain[0] == 0 and turning[0] == 0


def holds(yard, pushes, weights):
    """Whether these are pushes of the yard that hold the weights."""
    if not are_pushes(yard, pushes):
        return False
    rows = as_weights(pushes) + list(weights)
    return all([is_even([row for row in rows if row[0] == board[0]]) for board in yard.boards()])


def lifts(yard, motion):
    """What the motion lifts, or None where it is none or is not let."""
    if not is_motion(yard, motion) or not is_let(yard, motion):
        return None
    top, bottom = lifted(yard, motion)
    return part(top, bottom)


def is_stop(asked, stop):
    return stop[0] >= 0 and (asked[0] == "move" or stop[0] == 0)


def spreads_enough(yard, asked, aim, motion):
    """Whether no end spreads by less than nought; those asked for by no less than the aim."""
    for end, by in spreads(yard, motion):
        bound = aim if is_asked_end(asked, end) else 0
        if less(by, (bound, 1)):
            return False
    return True


def gives_way(yard, asked, aim, motion, stop):
    """Whether one more of the amount costs the motion at least the aim, a move's stop counted in."""
    if asked[0] == "weight":
        return not less((-aim, 1), rise_at(motion, asked[1], (asked[2], 1)))
    if asked[0] == "move":
        name, board, place, weight = sack_row(yard, asked[1])
        tilt = [row[2] for row in motion if row[0] == board][0]
        return not less(raw_sum([stop, (-aim, 1)]), raw_product((weight, 1), tilt))
    return True


def is_paper(yard, asked, aim, motion, stop):
    """Whether it is a paper that no more (aim 1), no less (aim -1) or none at all (aim 0) can be."""
    if not is_motion(yard, motion) or not is_stop(asked, stop):
        return False
    return spreads_enough(yard, asked, aim, motion) and gives_way(yard, asked, aim, motion, stop)


def worth(yard, asked, motion, stop):
    """What the motion lifts, and the stop times the length, together."""
    return raw_sum([lifted(from_left(yard, asked), motion), raw_product(stop, (length(yard, asked), 1))])


def shows(yard, asked, way, motion, stop):
    """The amount that the paper shows, or None where it is no such paper."""
    check_asked(yard, asked)
    check_way(way)
    aim = AIMS[way]
    if not is_paper(yard, asked, aim, motion, stop):
        return None
    beyond = raw_product((aim, 1), worth(yard, asked, motion, stop))
    top, bottom = raw_sum([(start(yard, asked), 1), beyond])
    return part(top, bottom)


def bars(yard, asked, motion, stop):
    """Whether it is a paper that no amount at all can be."""
    check_asked(yard, asked)
    return is_paper(yard, asked, 0, motion, stop) and worth(yard, asked, motion, stop)[0] < 0


def grows(yard, asked, pushes):
    """Whether these are pushes by which any amount more can be."""
    check_asked(yard, asked)
    if asked[0] == "move":
        return False
    if asked[0] == "weight":
        return holds(yard, pushes, [(asked[1], (asked[2], 1), (1, 1))])
    return holds(yard, pushes, []) and raw_sum([row[4] for row in pushes if is_asked_end(asked, row)])[0] > 0
