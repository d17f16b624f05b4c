"""What several tests use: asking a yard, deeds of all kinds, and a plain model to compare with."""

from dunnage import errors
from dunnage.yard import Yard

END = 10**6

# Each told refusal of each deed, in the order of DOC.md [6].
TOLD = {
    "trestle": ["BadName", "Taken", "BadCourse", "BadPlace", "Full", "Crowded"],
    "board": ["BadName", "Taken", "BadCourse", "BadPlace", "BadWeight", "Full", "Crowded"],
    "away": ["NoThing", "InUse"],
    "along": ["NoThing", "BadPlace", "InUse", "Crowded"],
    "sack": ["BadName", "Taken", "NoThing", "BadPlace", "BadWeight", "Full"],
    "move": ["NoSack", "NoThing", "BadPlace"],
    "lift": ["NoSack"],
    "cord": ["BadName", "Taken", "NoThing", "BadCord", "BadPlace", "Full"],
    "cut": ["NoCord"],
}

BAD_NAMES = ["", "A", "aB", "abcdefghi", "a1", "7", "a b", " a", "a ", "a\n", "a-b", "a_", "\u00e9", "\u00df", "\uff41"]


def lists(yard):
    return yard.boards(), yard.trestles(), yard.sacks(), yard.cords()


def refusal(yard, deed):
    """The name of the class by which the deed is refused, or None where it is done."""
    before = lists(yard)
    try:
        answer = yard.do(deed)
    except errors.YardError as error:
        assert lists(yard) == before, f"{deed!r} was refused, and changed the yard"
        assert type(error) is getattr(errors, type(error).__name__), f"{deed!r}: {type(error)!r}"
        return type(error).__name__
    assert answer is None, f"{deed!r} told {answer!r}"
    return None


def yard_of(*deeds):
    yard = Yard()
    for deed in deeds:
        yard.do(deed)
    return yard


class Model:
    """A yard written another way: one dict of all things, and every fault of a deed found, not only the first."""

    MOST = {"board": 6, "trestle": 6, "sack": 8, "cord": 4}

    def __init__(self):
        self.things = {}

    def copy(self):
        other = Model()
        other.things = {name: dict(thing) for name, thing in self.things.items()}
        return other

    def of(self, *kinds):
        return [name for name in sorted(self.things) if self.things[name]["kind"] in kinds]

    def lists(self):
        fields = {
            "board": ("course", "left", "right", "weight"),
            "trestle": ("course", "left", "right"),
            "sack": ("board", "place", "weight"),
            "cord": ("upper", "lower", "place"),
        }
        return tuple(
            [(name, *(self.things[name][field] for field in fields[kind])) for name in self.of(kind)]
            for kind in ("board", "trestle", "sack", "cord"))

    def do(self, deed):
        """The refusal told first, or None; then the deed is done."""
        faults = getattr(self, "faults_of_" + deed[0])(*deed[1:])
        for fault in TOLD[deed[0]]:
            if fault in faults:
                return fault
        assert not faults, faults
        getattr(self, "do_" + deed[0])(*deed[1:])
        return None

    def name_faults(self, name, kind):
        faults = set()
        if not (len(name) in range(1, 9) and set(name) <= set("abcdefghijklmnopqrstuvwxyz")):
            faults.add("BadName")
        if name in self.things:
            faults.add("Taken")
        if len(self.of(kind)) == self.MOST[kind]:
            faults.add("Full")
        return faults

    def crowds(self, name, course, left, right):
        others = [self.things[other] for other in self.of("board", "trestle") if other != name]
        return any(
            len(range(max(left, other["left"]), min(right, other["right"]) + 1)) > 1
            for other in others if other["course"] == course)

    def stretch_faults(self, name, course, left, right, shortest):
        faults = set()
        if course not in range(1, 10):
            faults.add("BadCourse")
        if left not in range(-10**6, 10**6 + 1) or right not in range(-10**6, 10**6 + 1) or right - left < shortest:
            faults.add("BadPlace")
        if self.crowds(name, course, left, right):
            faults.add("Crowded")
        return faults

    def weight_faults(self, weight):
        return set() if weight in range(1, 10**9 + 1) else {"BadWeight"}

    def on(self, board, place):
        return board in self.of("board") and self.things[board]["left"] <= place <= self.things[board]["right"]

    def tied(self, name):
        return any(name in (self.things[cord]["upper"], self.things[cord]["lower"]) for cord in self.of("cord"))

    def loaded(self, name):
        return [sack for sack in self.of("sack") if self.things[sack]["board"] == name]

    def faults_of_trestle(self, name, course, left, right):
        return self.name_faults(name, "trestle") | self.stretch_faults(name, course, left, right, 0)

    def faults_of_board(self, name, course, left, right, weight):
        faults = self.name_faults(name, "board") | self.stretch_faults(name, course, left, right, 1)
        return faults | self.weight_faults(weight)

    def faults_of_away(self, name):
        if name not in self.of("board", "trestle"):
            return {"NoThing"}
        return {"InUse"} if self.tied(name) or self.loaded(name) else set()

    def faults_of_along(self, name, by):
        if name not in self.of("board", "trestle"):
            return {"NoThing"}
        thing = self.things[name]
        faults = self.stretch_faults(name, thing["course"], thing["left"] + by, thing["right"] + by, 0)
        return faults | ({"InUse"} if self.tied(name) else set())

    def faults_of_sack(self, name, board, place, weight):
        faults = self.name_faults(name, "sack") | self.weight_faults(weight)
        return faults | self.faults_of_standing(board, place)

    def faults_of_standing(self, board, place):
        if board not in self.of("board"):
            return {"NoThing"}
        return set() if self.on(board, place) else {"BadPlace"}

    def faults_of_move(self, name, board, place):
        faults = set() if name in self.of("sack") else {"NoSack"}
        return faults | self.faults_of_standing(board, place)

    def faults_of_lift(self, name):
        return set() if name in self.of("sack") else {"NoSack"}

    def faults_of_cord(self, name, upper, lower, place):
        faults = self.name_faults(name, "cord")
        if lower not in self.of("board") or upper not in self.of("board") + [""]:
            return faults | {"NoThing"}
        if upper != "" and self.things[upper]["course"] <= self.things[lower]["course"]:
            faults.add("BadCord")
        if not self.on(lower, place) or (upper != "" and not self.on(upper, place)):
            faults.add("BadPlace")
        return faults

    def faults_of_cut(self, name):
        return set() if name in self.of("cord") else {"NoCord"}

    def do_trestle(self, name, course, left, right):
        self.things[name] = {"kind": "trestle", "course": course, "left": left, "right": right}

    def do_board(self, name, course, left, right, weight):
        self.things[name] = {"kind": "board", "course": course, "left": left, "right": right, "weight": weight}

    def do_away(self, name):
        self.things.pop(name)

    def do_along(self, name, by):
        self.things[name]["left"] += by
        self.things[name]["right"] += by
        for sack in self.loaded(name):
            self.things[sack]["place"] += by

    def do_sack(self, name, board, place, weight):
        self.things[name] = {"kind": "sack", "board": board, "place": place, "weight": weight}

    def do_move(self, name, board, place):
        self.things[name]["board"] = board
        self.things[name]["place"] = place

    do_lift = do_away
    do_cut = do_away

    def do_cord(self, name, upper, lower, place):
        self.things[name] = {"kind": "cord", "upper": upper, "lower": lower, "place": place}


def follow(test, yard, model, deed):
    """Do the deed in both; they tell the same of it, and have the same things behind it."""
    told = refusal(yard, deed)
    test.assertEqual(told, model.do(deed), deed)
    test.assertEqual(lists(yard), model.lists(), deed)
    return told


def any_deed(chance, model, names):
    """A deed of any kind; it mostly fits the yard, and has one or more things wrong now and then."""
    wrong = chance.choice([0, 0, 0.1, 0.6])

    def pick(good, bad):
        return chance.choice(list(bad)) if chance.random() < wrong or not good else chance.choice(list(good))

    free = [name for name in names if name not in model.things]
    boards, sacks, cords = model.of("board"), model.of("sack"), model.of("cord")
    anything = model.of("board", "trestle")
    new = pick(free, list(names) + BAD_NAMES)
    board = pick(boards, list(names) + BAD_NAMES)
    here = model.things[board] if board in boards else {"left": 0, "right": 9}
    place = pick([here["left"], here["right"], (here["left"] + here["right"]) // 2], [here["left"] - 1, END + 1, 70])
    course = pick(range(1, 5), [0, 10, -1])
    left = chance.randrange(-20, 20)
    right = pick([left + 1, left + 4, left + 9], [left - 1, left, END + 1])
    weight = pick([1, 10, 10**9], [0, -1, 10**9 + 1])
    return chance.choice([
        ("trestle", new, course, left, right), ("board", new, course, left, right, weight),
        ("board", new, course, left, right, weight), ("sack", new, board, place, weight),
        ("cord", new, pick(boards + [""], list(names) + BAD_NAMES), board, place),
        ("cord", new, "", board, place),
        ("away", pick(anything, list(names) + BAD_NAMES)),
        ("along", pick(anything, list(names) + BAD_NAMES), pick([-9, -1, 0, 1, 9], [END, -2 * END])),
        ("move", pick(sacks, list(names) + BAD_NAMES), board, place),
        ("lift", pick(sacks, list(names) + BAD_NAMES)), ("cut", pick(cords, list(names) + BAD_NAMES)),
    ])
