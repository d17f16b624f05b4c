"""Where the things of a yard push and pull one another, and what weighs on its boards."""

from dunnage.parts import part


def push_ends(upper, lower):
    """The ends at which two things push one another; rows of a yard, of which one at least is a board's."""
    left = max(upper[2], lower[2])
    right = min(upper[3], lower[3])
    if upper[1] != lower[1] + 1 or left > right:
        return []
    if left == right:
        return [("", upper[0], lower[0], left)]
    return [("", upper[0], lower[0], left), ("", upper[0], lower[0], right)]


def ends(yard):
    """All places where things push or pull: rows (what, upper, lower, place)."""
    boards = yard.boards()
    trestles = yard.trestles()
    pairs = [(upper, lower) for upper in boards for lower in boards + trestles]
    pairs.extend([(upper, lower) for upper in trestles for lower in boards])
    pushes = []
    for upper, lower in pairs:
        pushes.extend(push_ends(upper, lower))
    # A cord's row is its end already, and cords are told by names.
    return sorted(pushes) + yard.cords()


def raised_and_pressed(end):
    """The thing that the end pushes or pulls up, and the one that it pushes or pulls down."""
    if end[0] == "":
        return (end[1], end[2])
    return (end[2], end[1])


def weights(yard):
    """Rows (board, place, weight): each board's own, at its middle, then the sacks'."""
    own = [(row[0], part(row[2] + row[3], 2), part(row[4], 1)) for row in yard.boards()]
    return own + [(row[1], part(row[2], 1), part(row[3], 1)) for row in yard.sacks()]
