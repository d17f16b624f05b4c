"""What hangs together in a yard, parts of it alone, and boards that are drawn out of it."""

from dunnage.errors import NoThing
from dunnage.seek import stands
from dunnage.touch import ends
from dunnage.yard import BEAM, board_row, Yard


def board_names(yard):
    return [row[0] for row in yard.boards()]


def neighbours(yard):
    """For each board the boards that it touches or is tied to."""
    near = {name: [] for name in board_names(yard)}
    for what, upper, lower, place in ends(yard):
        # Trestles and the beam stand fast, so that nothing hangs together by them.
        if upper in near and lower in near:
            near[upper].append(lower)
            near[lower].append(upper)
    return near


def group_of(near, name):
    """The board and all that hang together with it, rising."""
    group = [name]
    fresh = [name]
    while fresh:
        beside = near[fresh.pop()]
        for other in beside:
            if other not in group:
                group.append(other)
                fresh.append(other)
    return sorted(group)


def groups(yard):
    """The list of lists of boards that hang together, each rising, by their first names."""
    near = neighbours(yard)
    found = []
    for name in board_names(yard):
        if not any([name in group for group in found]):
            found.append(group_of(near, name))
    return found


def alone(yard, names):
    """A yard with these boards, all trestles, the sacks on these boards, and the cords between them and the beam."""
    for name in names:
        board_row(yard, name)
    uppers = [BEAM] + list(names)
    other = Yard()
    other.trestle_rows = dict(yard.trestle_rows)
    other.board_rows = {row[0]: row for row in yard.boards() if row[0] in names}
    other.sack_rows = {row[0]: row for row in yard.sacks() if row[1] in names}
    other.cord_rows = {row[0]: row for row in yard.cords() if row[1] in uppers and row[2] in names}
    return other


def drawn(yard, name):
    """A yard without the board, its sacks and the cords that are tied to it."""
    board_row(yard, name)
    return alone(yard, [other for other in board_names(yard) if other != name])


def does_stand(yard):
    return stands(yard)[0] == "stands"


def drawable(yard):
    """The names of all boards that can be drawn out, rising."""
    return [name for name in board_names(yard) if does_stand(drawn(yard, name))]


def first_fall(yard, names):
    """The number of the first board, drawn out in this order, behind which the yard does not stand, or None."""
    for at, name in enumerate(names):
        board_row(yard, name)
        if name in names[:at]:
            raise NoThing(f"{name} is drawn out already")
    left = yard
    for at, name in enumerate(names):
        left = drawn(left, name)
        if not does_stand(left):
            return at
    return None
