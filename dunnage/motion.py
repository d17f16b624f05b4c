"""Motions: how far things rise where, how far ends spread, and what weights are lifted by.

What is told here are pairs (top, bottom) with the bottom above nought, not in lowest terms.
"""

from dunnage.parts import opposite, raw_product, raw_sum
from dunnage.touch import ends, raised_and_pressed, weights


def is_motion(yard, motion):
    return [row[0] for row in motion] == [row[0] for row in yard.boards()]


def rise_at(motion, thing, place):
    """How far the thing rises at the place, a part."""
    for row in motion:
        if row[0] == thing:
            return raw_sum([row[1], raw_product(row[2], place)])
    # Trestles and the beam have no row, and stay.
    return (0, 1)


def spread(motion, end):
    raised, pressed = raised_and_pressed(end)
    place = (end[3], 1)
    return raw_sum([rise_at(motion, raised, place), opposite(rise_at(motion, pressed, place))])


def spreads(yard, motion):
    """Rows (end, spread), in the order of the ends."""
    return [(end, spread(motion, end)) for end in ends(yard)]


def is_let(yard, motion):
    return all([row[1][0] >= 0 for row in spreads(yard, motion)])


def lifted(yard, motion):
    """The sum over all weights of the yard of weight times rise."""
    return raw_sum([raw_product(weight, rise_at(motion, board, place)) for board, place, weight in weights(yard)])
