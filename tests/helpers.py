"""What several tests use: asking a yard, deeds of all kinds, plain models to compare with, stacks, and plain sums."""

import re
from fractions import Fraction

from dunnage import errors
from dunnage.yard import Yard

END = 10**6

# Each told refusal of each deed, in the order of DOC.md [6].
TOLD = {
    "trestle": ["BadName", "Taken", "BadCourse", "BadPlace", "Full", "Crowded"],
    "board": ["BadName", "Taken", "BadCourse", "BadPlace", "BadWeight", "Full", "Crowded"],
    "away": ["NoThing", "InUse"],
    "along": ["NoThing", "BadPlace", "InUse", "Crowded"],
    "sack": ["BadName", "Taken", "NoThing", "BadPlace", "BadWeight", "Full"],
    "move": ["NoSack", "NoThing", "BadPlace"],
    "lift": ["NoSack"],
    "cord": ["BadName", "Taken", "NoThing", "BadCord", "BadPlace", "Full"],
    "cut": ["NoCord"],
}

BAD_NAMES = ["", "A", "aB", "abcdefghi", "a1", "7", "a b", " a", "a ", "a\n", "a-b", "a_", "\u00e9", "\u00df", "\uff41"]


def lists(yard):
    return yard.boards(), yard.trestles(), yard.sacks(), yard.cords()


def refusal(yard, deed):
    """The name of the class by which the deed is refused, or None where it is done."""
    before = lists(yard)
    try:
        answer = yard.do(deed)
    except errors.YardError as error:
        assert lists(yard) == before, f"{deed!r} was refused, and changed the yard"
        assert type(error) is getattr(errors, type(error).__name__), f"{deed!r}: {type(error)!r}"
        return type(error).__name__
    assert answer is None, f"{deed!r} told {answer!r}"
    return None


def ask(call, *things):
    """What the call tells, or ("no", name) where it is refused by the class of that name itself."""
    try:
        return call(*things)
    except errors.YardError as error:
        name = type(error).__name__
        assert type(error) is getattr(errors, name) and type(error).__bases__ == (errors.YardError,), name
        return ("no", name)


def yard_of(*deeds):
    yard = Yard()
    for deed in deeds:
        yard.do(deed)
    return yard


class Model:
    """A yard written another way: one dict of all things, and every fault of a deed found, not only the first."""

    MOST = {"board": 6, "trestle": 6, "sack": 8, "cord": 4}

    def __init__(self):
        self.things = {}

    def copy(self):
        other = Model()
        other.things = {name: dict(thing) for name, thing in self.things.items()}
        return other

    def of(self, *kinds):
        return [name for name in sorted(self.things) if self.things[name]["kind"] in kinds]

    def lists(self):
        fields = {
            "board": ("course", "left", "right", "weight"),
            "trestle": ("course", "left", "right"),
            "sack": ("board", "place", "weight"),
            "cord": ("upper", "lower", "place"),
        }
        return tuple(
            [(name, *(self.things[name][field] for field in fields[kind])) for name in self.of(kind)]
            for kind in ("board", "trestle", "sack", "cord"))

    def do(self, deed):
        """The refusal told first, or None; then the deed is done."""
        faults = getattr(self, "faults_of_" + deed[0])(*deed[1:])
        for fault in TOLD[deed[0]]:
            if fault in faults:
                return fault
        assert not faults, faults
        getattr(self, "do_" + deed[0])(*deed[1:])
        return None

    def name_faults(self, name, kind):
        faults = set()
        if not (len(name) in range(1, 9) and set(name) <= set("abcdefghijklmnopqrstuvwxyz")):
            faults.add("BadName")
        if name in self.things:
            faults.add("Taken")
        if len(self.of(kind)) == self.MOST[kind]:
            faults.add("Full")
        return faults

    def crowds(self, name, course, left, right):
        others = [self.things[other] for other in self.of("board", "trestle") if other != name]
        return any(
            len(range(max(left, other["left"]), min(right, other["right"]) + 1)) > 1
            for other in others if other["course"] == course)

    def stretch_faults(self, name, course, left, right, shortest):
        faults = set()
        if course not in range(1, 10):
            faults.add("BadCourse")
        if left not in range(-10**6, 10**6 + 1) or right not in range(-10**6, 10**6 + 1) or right - left < shortest:
            faults.add("BadPlace")
        if self.crowds(name, course, left, right):
            faults.add("Crowded")
        return faults

    def weight_faults(self, weight):
        return set() if weight in range(1, 10**9 + 1) else {"BadWeight"}

    def on(self, board, place):
        return board in self.of("board") and self.things[board]["left"] <= place <= self.things[board]["right"]

    def tied(self, name):
        return any(name in (self.things[cord]["upper"], self.things[cord]["lower"]) for cord in self.of("cord"))

    def loaded(self, name):
        return [sack for sack in self.of("sack") if self.things[sack]["board"] == name]

    def faults_of_trestle(self, name, course, left, right):
        return self.name_faults(name, "trestle") | self.stretch_faults(name, course, left, right, 0)

    def faults_of_board(self, name, course, left, right, weight):
        faults = self.name_faults(name, "board") | self.stretch_faults(name, course, left, right, 1)
        return faults | self.weight_faults(weight)

    def faults_of_away(self, name):
        if name not in self.of("board", "trestle"):
            return {"NoThing"}
        return {"InUse"} if self.tied(name) or self.loaded(name) else set()

    def faults_of_along(self, name, by):
        if name not in self.of("board", "trestle"):
            return {"NoThing"}
        thing = self.things[name]
        faults = self.stretch_faults(name, thing["course"], thing["left"] + by, thing["right"] + by, 0)
        return faults | ({"InUse"} if self.tied(name) else set())

    def faults_of_sack(self, name, board, place, weight):
        faults = self.name_faults(name, "sack") | self.weight_faults(weight)
        return faults | self.faults_of_standing(board, place)

    def faults_of_standing(self, board, place):
        if board not in self.of("board"):
            return {"NoThing"}
        return set() if self.on(board, place) else {"BadPlace"}

    def faults_of_move(self, name, board, place):
        faults = set() if name in self.of("sack") else {"NoSack"}
        return faults | self.faults_of_standing(board, place)

    def faults_of_lift(self, name):
        return set() if name in self.of("sack") else {"NoSack"}

    def faults_of_cord(self, name, upper, lower, place):
        faults = self.name_faults(name, "cord")
        if lower not in self.of("board") or upper not in self.of("board") + [""]:
            return faults | {"NoThing"}
        if upper != "" and self.things[upper]["course"] <= self.things[lower]["course"]:
            faults.add("BadCord")
        if not self.on(lower, place) or (upper != "" and not self.on(upper, place)):
            faults.add("BadPlace")
        return faults

    def faults_of_cut(self, name):
        return set() if name in self.of("cord") else {"NoCord"}

    def do_trestle(self, name, course, left, right):
        self.things[name] = {"kind": "trestle", "course": course, "left": left, "right": right}

    def do_board(self, name, course, left, right, weight):
        self.things[name] = {"kind": "board", "course": course, "left": left, "right": right, "weight": weight}

    def do_away(self, name):
        self.things.pop(name)

    def do_along(self, name, by):
        self.things[name]["left"] += by
        self.things[name]["right"] += by
        for sack in self.loaded(name):
            self.things[sack]["place"] += by

    def do_sack(self, name, board, place, weight):
        self.things[name] = {"kind": "sack", "board": board, "place": place, "weight": weight}

    def do_move(self, name, board, place):
        self.things[name]["board"] = board
        self.things[name]["place"] = place

    do_lift = do_away
    do_cut = do_away

    def do_cord(self, name, upper, lower, place):
        self.things[name] = {"kind": "cord", "upper": upper, "lower": lower, "place": place}


def made_of(lists):
    """A yard just made of the things of these four lists."""
    boards, trestles, sacks, cords = lists
    return yard_of(
        *[("trestle", *row) for row in trestles], *[("board", *row) for row in boards],
        *[("sack", *row) for row in sacks], *[("cord", *row) for row in cords])


def model_of(lists):
    """A model of the things of these four lists."""
    model = Model()
    for kind, rows in zip(("board", "trestle", "sack", "cord"), lists):
        for row in rows:
            getattr(model, "do_" + kind)(*row)
    return model


def follow(test, yard, model, deed):
    """Do the deed in both; they tell the same of it, and have the same things behind it."""
    told = refusal(yard, deed)
    test.assertEqual(told, model.do(deed), deed)
    test.assertEqual(lists(yard), model.lists(), deed)
    return told


def any_deed(chance, model, names):
    """A deed of any kind; it mostly fits the yard, and has one or more things wrong now and then."""
    wrong = chance.choice([0, 0, 0.1, 0.6])

    def pick(good, bad):
        return chance.choice(list(bad)) if chance.random() < wrong or not good else chance.choice(list(good))

    free = [name for name in names if name not in model.things]
    boards, sacks, cords = model.of("board"), model.of("sack"), model.of("cord")
    anything = model.of("board", "trestle")
    new = pick(free, list(names) + BAD_NAMES)
    board = pick(boards, list(names) + BAD_NAMES)
    here = model.things[board] if board in boards else {"left": 0, "right": 9}
    place = pick([here["left"], here["right"], (here["left"] + here["right"]) // 2], [here["left"] - 1, END + 1, 70])
    course = pick(range(1, 5), [0, 10, -1])
    left = chance.randrange(-20, 20)
    right = pick([left + 1, left + 4, left + 9], [left - 1, left, END + 1])
    weight = pick([1, 10, 10**9], [0, -1, 10**9 + 1])
    return chance.choice([
        ("trestle", new, course, left, right), ("board", new, course, left, right, weight),
        ("board", new, course, left, right, weight), ("sack", new, board, place, weight),
        ("cord", new, pick(boards + [""], list(names) + BAD_NAMES), board, place),
        ("cord", new, "", board, place),
        ("away", pick(anything, list(names) + BAD_NAMES)),
        ("along", pick(anything, list(names) + BAD_NAMES), pick([-9, -1, 0, 1, 9], [END, -2 * END])),
        ("move", pick(sacks, list(names) + BAD_NAMES), board, place),
        ("lift", pick(sacks, list(names) + BAD_NAMES)), ("cut", pick(cords, list(names) + BAD_NAMES)),
    ])


# Stacks of boards: rows of deeds, all of which a yard does.


def stack_deeds(chance, boards=4, trestles=3, sacks=4, cords=2, weights=(1, 2, 3, 7, 40)):
    """Deeds by which boards are laid on what is there; near nought, far off, or wide."""
    scale, offset = chance.choice([(1, 0), (1, 0), (2, -7), (1, 999900), (3, -999000), (20000, 0), (9973, 31)])
    names = list(chance.choice(["abcdefghijklmnopqrstuvwxyz", "zyxwvutsrqponmlkjihgfedcba"]))
    chance.shuffle(names)
    yard, deeds = Yard(), []

    def place(small):
        return offset + scale * small

    def add(deed):
        if refusal(yard, deed) is None:
            deeds.append(deed)
            names.remove(deed[1])

    def tread(course, low):
        left = low + chance.randrange(-3, 4)
        add(("trestle", names[-1], course, place(left), place(left + chance.choice([0, 0, 1, 3]))))

    def weight():
        return chance.choice(weights)

    for at in range(chance.randint(1, trestles)):
        tread(chance.choice([1, 1, 1, 2]), 8 * at)
    target = chance.randint(1, boards)
    for turn in range(4 * target):
        if len(yard.boards()) < target:
            lay(chance, yard, add, names, scale, weight())
        if yard.boards() and chance.random() < 0.08:
            row = chance.choice(yard.boards())
            tread(row[1] + 1, (chance.choice([row[2], row[3]]) - offset) // scale)
    rows = yard.boards()
    for turn in range(chance.randint(0, sacks) if rows else 0):
        row = chance.choice(rows)
        add(("sack", names[-1], row[0], chance.choice([row[2], row[3], (row[2] + row[3]) // 2]), weight()))
    for turn in range(chance.randint(0, cords) if rows else 0):
        lower = chance.choice(rows)
        upper = chance.choice([("", 0, lower[2], lower[3]), *rows])
        spots = [max(upper[2], lower[2]), min(upper[3], lower[3])]
        add(("cord", names[-1], upper[0], lower[0], chance.choice([*spots, sum(spots) // 2])))
    return deeds


def lay(chance, yard, add, names, scale, weight):
    """Lay one board on one thing that is there, or over two of one course."""
    rows = yard.boards() + yard.trestles()
    under = chance.choice(rows)
    same = [row for row in rows if row[1] == under[1]]
    other = chance.choice(same) if chance.random() < 0.7 else under
    left = min(under[2], other[2]) + scale * chance.choice([-4, -2, -1, 0, 0, 1])
    right = max(under[3], other[3]) + scale * chance.choice([4, 2, 1, 0, 0, -1])
    add(("board", names[-1], under[1] + 1, left, right, weight))


def any_stack(chance, **most):
    return yard_of(*stack_deeds(chance, **most))


def all_asked(yard, chance):
    """All that may be asked for of the yard; a weight at one place of each board."""
    asked = []
    for name, course, left, right, weight in yard.boards():
        asked.append(("weight", name, chance.choice([left, right, (left + right) // 2, chance.randint(left, right)])))
    asked += [("move", row[0]) for row in yard.sacks()]
    asked += [("trestle", row[0]) for row in yard.trestles()]
    return asked + [("cord", row[0]) for row in yard.cords()]


# Plain sums, in fractions, straight from the words of DOC.md [3] to [13].


def worth(part):
    """A told part as a fraction; it is a tuple of two numbers in lowest terms."""
    assert type(part) is tuple and [type(number) for number in part] == [int, int], part
    fraction = Fraction(*part)
    assert (fraction.numerator, fraction.denominator) == part, part
    return fraction


def as_part(number):
    fraction = Fraction(number)
    return (fraction.numerator, fraction.denominator)


def own_ends(yard):
    rows = []
    fast = [row[0] for row in yard.trestles()]
    things = [row[:4] for row in yard.boards() + yard.trestles()]
    for upper, high, first, last in things:
        for lower, low, left, right in things:
            if high - low != 1 or (upper in fast and lower in fast):
                continue
            common = [place for place in (first, last, left, right) if max(first, left) <= place <= min(last, right)]
            rows += [("", upper, lower, place) for place in set(common)]
    rows.sort(key=lambda row: (row[1], row[2], row[3]))
    return rows + [(name, upper, lower, place) for name, upper, lower, place in yard.cords()]


def own_weights(yard):
    rows = [(name, Fraction(left + right, 2), Fraction(weight)) for name, course, left, right, weight in yard.boards()]
    return rows + [(board, Fraction(place), Fraction(weight)) for name, board, place, weight in yard.sacks()]


def own_load(yard, pushes):
    """For each board what the pushes carry on it: [their sum, their sum each taken as often as its place tells]."""
    load = {row[0]: [Fraction(0), Fraction(0)] for row in yard.boards()}
    for what, upper, lower, place, push in pushes:
        by = worth(push)
        for thing, sign in [(upper, 1), (lower, -1)]:
            if thing in load:
                turned = sign if what == "" else -sign
                load[thing][0] += turned * by
                load[thing][1] += turned * by * place
    return load


def own_holds(yard, pushes, weights):
    """Whether the pushes hold the weights, which are rows (board, place, weight) in fractions."""
    if [row[:4] for row in pushes] != own_ends(yard) or any(worth(row[4]) < 0 for row in pushes):
        return False
    load = own_load(yard, pushes)
    for board, place, weight in weights:
        load[board][0] -= weight
        load[board][1] -= weight * place
    return all(sums == [0, 0] for sums in load.values())


def own_rise(motion, thing, place):
    for board, rise, tilt in motion:
        if board == thing:
            return worth(rise) + worth(tilt) * place
    return Fraction(0)


def own_spread(motion, end):
    what, upper, lower, place = end
    by = own_rise(motion, upper, place) - own_rise(motion, lower, place)
    return by if what == "" else -by


def own_lifts(motion, weights):
    return sum((weight * own_rise(motion, board, place) for board, place, weight in weights), Fraction(0))


def own_motion(yard, motion):
    return [row[0] for row in motion] == [row[0] for row in yard.boards()]


def own_let(yard, motion):
    return own_motion(yard, motion) and all(own_spread(motion, end) >= 0 for end in own_ends(yard))


def weights_with(yard, asked, amount):
    """The yard's weights where the amount asked for is just this one."""
    rows = own_weights(yard)
    if asked[0] == "weight":
        return rows + [(asked[1], Fraction(asked[2]), amount)]
    if asked[0] == "move":
        at = len(yard.boards()) + [row[0] for row in yard.sacks()].index(asked[1])
        rows[at] = (rows[at][0], amount, rows[at][2])
    return rows


def asked_ends(yard, asked):
    """The places of the ends that belong to what is asked for, in the list of all ends."""
    rows = own_ends(yard)
    if asked[0] == "trestle":
        return [at for at, row in enumerate(rows) if asked[1] in (row[1], row[2])]
    return [at for at, row in enumerate(rows) if asked[0] == "cord" and row[0] == asked[1]]


def own_judge(yard, asked, way, motion, stop):
    """What a paper shows, the way `most` or `least`, or whether it bars, the way `none`."""
    one = {"most": 1, "least": -1, "none": 0}[way]
    by = worth(stop)
    wrong = False if way == "none" else None
    if not own_motion(yard, motion) or by < 0 or (by and asked[0] != "move"):
        return wrong
    chosen = asked_ends(yard, asked)
    for at, end in enumerate(own_ends(yard)):
        if own_spread(motion, end) < (one if at in chosen else 0):
            return wrong
    start, beyond = Fraction(0), Fraction(0)
    if asked[0] == "weight" and own_rise(motion, asked[1], asked[2]) > -one:
        return wrong
    if asked[0] == "move":
        sack = [row for row in yard.sacks() if row[0] == asked[1]][0]
        board = [row for row in yard.boards() if row[0] == sack[1]][0]
        tilt = own_rise(motion, board[0], 1) - own_rise(motion, board[0], 0)
        if sack[3] * tilt > by - one:
            return wrong
        start, beyond = Fraction(board[2]), by * (board[3] - board[2])
    together = own_lifts(motion, weights_with(yard, asked, start if asked[0] == "move" else Fraction(0))) + beyond
    if way == "none":
        return together < 0
    return as_part(start + one * together)


def own_grows(yard, asked, pushes):
    if asked[0] == "move":
        return False
    if asked[0] == "weight":
        return own_holds(yard, pushes, [(asked[1], Fraction(asked[2]), Fraction(1))])
    return own_holds(yard, pushes, []) and sum(worth(pushes[at][4]) for at in asked_ends(yard, asked)) > 0


def told_pushes(test, yard, pushes):
    """The kinds of told pushes."""
    test.assertIs(type(pushes), list)
    for row in pushes:
        test.assertIs(type(row), tuple)
        test.assertEqual(len(row), 5)
        test.assertGreaterEqual(worth(row[4]), 0)
    test.assertEqual([row[:4] for row in pushes], own_ends(yard))


def told_motion(test, yard, motion):
    """The kinds of a told motion."""
    test.assertIs(type(motion), list)
    for row in motion:
        test.assertIs(type(row), tuple)
        test.assertEqual(len(row), 3)
        worth(row[1])
        worth(row[2])
    test.assertEqual([row[0] for row in motion], [row[0] for row in yard.boards()])


# What hangs together, straight from the words of DOC.md [15] and [16].


def own_groups(yard):
    """Every board by itself at first; groups that an end ties together are joined until none is left."""
    found = [{row[0]} for row in yard.boards()]
    for what, upper, lower, place in own_ends(yard):
        joined = [group for group in found if upper in group or lower in group]
        if upper in set().union(*found) and lower in set().union(*found):
            found = [group for group in found if group not in joined] + [set().union(*joined)]
    return sorted(sorted(group) for group in found)


def own_alone(told, names):
    """The four lists that are left of these four, where these boards alone stay."""
    boards, trestles, sacks, cords = told
    return (
        [row for row in boards if row[0] in names], trestles, [row for row in sacks if row[1] in names],
        [row for row in cords if row[2] in names and (row[1] == "" or row[1] in names)])


def own_drawn(told, name):
    boards, trestles, sacks, cords = told
    return (
        [row for row in boards if row[0] != name], trestles, [row for row in sacks if row[1] != name],
        [row for row in cords if name not in row[1:3]])


# A diary written another way: its whole states, one behind another.

NAME_PLACES = {
    "trestle": [1], "board": [1], "away": [1], "along": [1], "sack": [1, 2], "move": [1, 2], "lift": [1],
    "cord": [1, 2, 3], "cut": [1],
}
LENGTHS = {"trestle": 5, "board": 6, "away": 2, "along": 3, "sack": 5, "move": 4, "lift": 2, "cord": 5, "cut": 2}


def entry_fault(day, deed):
    """The refusal told first of what a diary does not keep, or None."""
    if day not in range(1, 10000):
        return "BadDay"
    if len(deed) == 0 or LENGTHS.get(deed[0]) != len(deed):
        return "BadDeed"
    if any(len(str(abs(thing))) > 10 for thing in deed if isinstance(thing, int)):
        return "BadDeed"
    for at in NAME_PLACES[deed[0]]:
        if re.fullmatch("[a-z]{1,8}", deed[at]) is None and (deed[0], at, deed[at]) != ("cord", 2, ""):
            return "BadName"
    return None


class OwnDiary:
    """Each method tells what a diary's tells, or ("no", name) of the refusal."""

    def __init__(self):
        self.past, self.now, self.ahead = [], ({}, 1), []

    def twin(self):
        other = OwnDiary()
        other.past, other.now, other.ahead = list(self.past), self.now, list(self.ahead)
        return other

    def rows(self):
        return [(number, *row) for number, row in sorted(self.now[0].items())]

    def coming(self):
        return self.now[1]

    def state(self, rows, coming):
        self.past, self.now, self.ahead = [*self.past, self.now], (rows, coming), []

    def enter(self, day, deed):
        if entry_fault(day, deed):
            return ("no", entry_fault(day, deed))
        number = self.now[1]
        self.state({**self.now[0], number: (day, deed)}, number + 1)
        return number

    def strike(self, number):
        if number not in self.now[0]:
            return ("no", "NoEntry")
        self.state({other: row for other, row in self.now[0].items() if other != number}, self.now[1])

    def correct(self, number, day, deed):
        if number not in self.now[0]:
            return ("no", "NoEntry")
        if entry_fault(day, deed):
            return ("no", entry_fault(day, deed))
        self.state({**self.now[0], number: (day, deed)}, self.now[1])

    def back(self):
        if not self.past:
            return ("no", "NothingThere")
        *self.past, self.now, self.ahead = *self.past, [self.now, *self.ahead]

    def again(self):
        if not self.ahead:
            return ("no", "NothingThere")
        self.past, (self.now, *self.ahead) = [*self.past, self.now], self.ahead

    def model(self, day):
        """The model of the yard of the day, and the numbers of the rows that are void there."""
        model, void = Model(), []
        for number, entered, deed in sorted(self.rows(), key=lambda row: (row[1], row[0])):
            if entered <= day and model.do(deed) is not None:
                void.append(number)
        return model, void

    def word(self, number):
        if number not in self.now[0]:
            return ("no", "NoEntry")
        return "void" if number in self.model(self.now[0][number][0])[1] else "done"

    def page(self):
        rows = [" ".join("-" if thing == "" else str(thing) for thing in (number, day, *deed))
                for number, day, deed in self.rows()]
        return "".join(row + "\n" for row in [f"next {self.coming()}", *rows])


def state_of(diary):
    return diary.rows(), diary.coming()


def follow_diary(test, diary, own, doing, *things):
    """Do it in both; they tell the same of it, and have the same rows and next number behind it."""
    told = ask(getattr(diary, doing), *things)
    test.assertEqual(told, getattr(own, doing)(*things), (doing, things))
    test.assertEqual(state_of(diary), state_of(own), (doing, things))
    return told


WRONG_DEEDS = [
    (), ("",), ("fly", "a"), ("Board", "a", 1, 0, 9, 1), ("away",), ("away", "a", "b"), ("board", "a", 1, 0, 9),
    ("board", "a", 1, 0, 9, 1, 1), ("cord", "c", "a", 1), ("enter", "a"), ("along", "a", 10**10),
    ("along", "a", -10**10), ("board", "a", 1, 0, 9, 10**10), ("trestle", "a", 10**10, 0, 9),
    ("trestle", "a", 1, -10**30, 9), ("trestle", "a", 1, 0, 10**10), ("sack", "a", "b", 10**10, 1),
    ("sack", "a", "b", 1, 10**11), ("move", "a", "b", -10**10), ("cord", "a", "", "b", 10**10),
    ("along", "A", 10**10), ("cord", "c", "", "", 10**10), ("sack", "s", "", 1, 1), ("cord", "c", "", "", 1),
    ("cord", "", "", "b", 1), ("cord", "c", "B", "b", 1), ("cord", "c", "-", "b", 1), ("cord", "c", "", "-", 1),
    ("move", "s", "", 1), ("move", "", "b", 1), ("away", ""), ("lift", "-"), ("cut", "abcdefghi"), ("along", "a b", 1),
]
FAR_DEEDS = [
    ("along", "a", 10**10 - 1), ("along", "a", 1 - 10**10), ("board", "a", 0, 9999999999, -9999999999, 0),
    ("trestle", "abcdefgh", -1, 10**9, -10**9), ("cord", "c", "", "b", -10**9), ("sack", "s", "s", 0, -7),
    ("move", "z", "z", 9876543210), ("cord", "c", "c", "c", 0),
]


def any_doing(chance, own, names, days=(1, 2, 3, 5, 8, 300, 9999)):
    """A name of a diary's method and what is handed to it; now and then wrong."""
    wrong = chance.choice([0, 0, 0.05, 0.3])

    def pick(good, bad):
        return chance.choice(list(bad)) if chance.random() < wrong or not good else chance.choice(list(good))

    day = pick(days, [0, -1, 10000, 10001, -10**12, 10**12])
    number = pick(list(own.now[0]), [0, -1, own.coming(), own.coming() + 1, chance.randint(1, own.coming()), 10**12])
    deed = pick([None] * 30 + FAR_DEEDS, WRONG_DEEDS)
    if deed is None:
        deed = any_deed(chance, own.model(day)[0], names)
    doing = chance.choice(["enter"] * 7 + ["strike"] + ["correct"] * 2 + ["back"] * 2 + ["again"] * 2)
    if doing == "correct" and number in own.now[0] and chance.random() < 0.2:
        return doing, number, *own.now[0][number]
    things = {"enter": (day, deed), "strike": (number,), "correct": (number, day, deed)}
    return doing, *things.get(doing, ())
