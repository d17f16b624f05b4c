"""Amounts of nought or more that meet sums, with the most of a goal (the simplex method).

All numbers of a table are whole and stand over one bottom, so that no lowest terms are needed on the way. Of several
choices the first is taken always (Bland's rule): so it never goes round in a ring, whatever the numbers are.
"""

from dunnage.parts import part


class Table:
    """Lines, one for each sum, and below them one or two goals, the one that is pursued last.

    A line has first a number for each sum (its helper, which makes up what the sum lacks), then one for each amount,
    then its total. Each sum's line tells the amount, or helper, that its basis names; all others are nought.
    """

    def __init__(self, lines, basis):
        self.lines = lines
        self.basis = basis
        self.bottom = 1

    def turn(self, at, column):
        """Let the line tell the column's amount from now on."""
        chosen = self.lines[at]
        # Below nought it is only in a line whose total is nought, which stands the change of sign.
        if chosen[column] < 0:
            chosen = [-number for number in chosen]
        turned = []
        for place, line in enumerate(self.lines):
            turned.append(chosen if place == at else self.cleared(line, chosen, column))
        self.lines = turned
        self.bottom = chosen[column]
        self.basis[at] = column

    def cleared(self, line, chosen, column):
        """The line less as much of the chosen one as leaves nought in the column, over the new bottom."""
        many = chosen[column]
        much = line[column]
        # The old bottom always goes in evenly: each number is a determinant of the first table's.
        return [(number * many - other * much) // self.bottom for number, other in zip(line, chosen)]

    def entering(self):
        """The first amount that would bring the goal on, or None."""
        goal = self.lines[-1]
        for column in range(len(self.basis), len(goal) - 1):
            if goal[column] < 0:
                return column
        return None

    def leaving(self, column):
        """The line that first comes to nought where the column's amount grows, or None."""
        best = None
        for at, line in enumerate(self.lines[:len(self.basis)]):
            if line[column] > 0 and (best is None or self.is_sooner(at, best, column)):
                best = at
        return best

    def is_sooner(self, at, other, column):
        mine = self.lines[at][-1] * self.lines[other][column]
        others = self.lines[other][-1] * self.lines[at][column]
        return mine < others or (mine == others and self.basis[at] < self.basis[other])

    def climb(self):
        """Bring the last line's goal to its most. An amount that may grow without end is told, or None."""
        column = self.entering()
        while column is not None:
            at = self.leaving(column)
            if at is None:
                return column
            self.turn(at, column)
            column = self.entering()
        return None

    def drop_helpers(self):
        """Put amounts in the place of helpers that make up nothing."""
        count = len(self.basis)
        for at in range(count):
            if self.basis[at] >= count:
                continue
            line = self.lines[at]
            columns = [column for column in range(count, len(line) - 1) if line[column] != 0]
            # A line without any only repeats others, and stays as it is.
            if columns:
                self.turn(at, columns[0])

    def amounts(self):
        """The amounts that the lines tell, in the order of the columns."""
        told = [(0, 1)] * (len(self.lines[-1]) - 1)
        for at, column in enumerate(self.basis):
            told[column] = part(self.lines[at][-1], self.bottom)
        return told[len(self.basis):]

    def steps(self, column):
        """How the amounts grow together where the column's one grows by one."""
        told = [(0, 1)] * (len(self.lines[-1]) - 1)
        told[column] = (1, 1)
        for at, other in enumerate(self.basis):
            told[other] = part(-self.lines[at][column], self.bottom)
        return told[len(self.basis):]


def first_table(columns, totals, signs, goal):
    """The table in which helpers make up all of each sum."""
    count = len(totals)
    lines = []
    for at in range(count):
        helpers = [1 if other == at else 0 for other in range(count)]
        numbers = [signs[at] * column[at] for column in columns]
        lines.append(helpers + numbers + [signs[at] * totals[at]])
    # What is lacking is to become nought: its line is that of all helpers together, taken below nought.
    lacking = [0] * count + [-sum([line[at] for line in lines]) for at in range(count, count + len(columns) + 1)]
    goals = [[0] * count + [-number for number in goal] + [0], lacking]
    return Table(lines + goals, list(range(count)))


def solve(columns, totals, goal):
    """Amounts, one for each column, such that the columns, each taken so often, come to the totals.

    ("none", worths): there are none; each column's numbers times the worths come to nought or more, the totals' to
    less. ("best", amounts, worths): the goal times the amounts is at its most, and each column's numbers times the
    worths come to no less than the column's goal, the totals' to that most. ("more", amounts, steps): the goal has
    no most; steps, added any number of times, bring it on. All of these are lists of parts.
    """
    signs = [-1 if total < 0 else 1 for total in totals]
    table = first_table(columns, totals, signs, goal)
    table.climb()
    lacking = table.lines.pop()
    if lacking[-1] < 0:
        # A helper's own cost of one stands in its number, too.
        return ("none", [part(sign * (lacking[at] - table.bottom), table.bottom) for at, sign in enumerate(signs)])
    table.drop_helpers()
    column = table.climb()
    if column is not None:
        return ("more", table.amounts(), table.steps(column))
    return ("best", table.amounts(), [part(sign * table.lines[-1][at], table.bottom) for at, sign in enumerate(signs)])
