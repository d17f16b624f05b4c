"""The interface as it is written, each refusal by its class alone, and a yard without boards ([0.2], [9] to [16])."""

import copy
import importlib
import inspect
import unittest

from dunnage import errors
from dunnage.apart import alone, drawable, drawn, first_fall, groups
from dunnage.desk import Desk
from dunnage.diary import Diary
from dunnage.page import read, written
from dunnage.papers import bars, grows, holds, lifts, shows
from dunnage.seek import edge, stands
from dunnage.touch import ends, weights
from dunnage.yard import Yard
from tests.helpers import ask, lists, state_of, yard_of

FUNCTIONS = {
    "parts": {"part": "top bottom", "plus": "a b", "minus": "a b", "times": "a b", "less": "a b"},
    "touch": {"ends": "yard", "weights": "yard"},
    "papers": {
        "holds": "yard pushes weights", "lifts": "yard motion", "shows": "yard asked way motion stop",
        "bars": "yard asked motion stop", "grows": "yard asked pushes",
    },
    "seek": {"stands": "yard", "edge": "yard asked way"},
    "apart": {
        "groups": "yard", "alone": "yard names", "drawn": "yard name", "drawable": "yard", "first_fall": "yard names",
    },
    "page": {"written": "diary", "read": "text"},
}
METHODS = {
    ("yard", "Yard"): {"do": "deed", "boards": "", "trestles": "", "sacks": "", "cords": "", "twin": ""},
    ("diary", "Diary"): {
        "enter": "day deed", "strike": "number", "correct": "number day deed", "back": "", "again": "", "rows": "",
        "coming": "", "yard": "day", "word": "number", "twin": "",
    },
    ("desk", "Desk"): {"say": "line", "diary": ""},
}
NOUGHT = (0, 1)


class NamesTest(unittest.TestCase):
    def test_functions(self):
        for module, functions in FUNCTIONS.items():
            for name, arguments in functions.items():
                function = getattr(importlib.import_module(f"dunnage.{module}"), name)
                self.assertEqual(list(inspect.signature(function).parameters), arguments.split(), name)

    def test_classes(self):
        for (module, name), methods in METHODS.items():
            made = getattr(importlib.import_module(f"dunnage.{module}"), name)
            self.assertEqual(list(inspect.signature(made).parameters), [], name)
            for method, arguments in methods.items():
                self.assertIn(method, vars(made), (name, method))
                found = list(inspect.signature(vars(made)[method]).parameters)
                self.assertEqual(found, ["self", *arguments.split()], (name, method))

    def test_by_keywords(self):
        diary = Diary()
        self.assertEqual(diary.enter(deed=("board", "b", 1, 0, 9, 1), day=3), 1)
        diary.correct(deed=("board", "b", 2, 0, 9, 1), number=1, day=4)
        yard = diary.yard(day=4)
        self.assertEqual(drawn(name="b", yard=yard).boards(), [])
        self.assertEqual(alone(names=["b"], yard=yard).boards(), [("b", 2, 0, 9, 1)])
        self.assertIsNone(first_fall(names=["b"], yard=yard))
        self.assertEqual(state_of(read(text=written(diary=diary))), state_of(diary))
        self.assertEqual(Desk().say(line="page"), "next 1\n")


class RefusalsTest(unittest.TestCase):
    def test_each_one_somewhere(self):
        yard = yard_of(
            ("trestle", "t", 1, 0, 9), ("board", "b", 2, 0, 9, 1), ("board", "d", 3, 0, 9, 1), ("sack", "s", "b", 1, 1))
        full = yard_of(*[("trestle", name, 1, 0, 0) for name in "abcdef"])
        diary = Diary()
        diary.enter(1, ("lift", "a"))
        before = lists(yard), lists(full), state_of(diary)
        told = [
            ("BadName", yard.do, ("trestle", "T", 1, 0, 9)), ("BadName", diary.enter, 1, ("lift", "A")),
            ("BadName", diary.correct, 1, 1, ("lift", "A")), ("Taken", yard.do, ("trestle", "s", 1, 0, 9)),
            ("BadCourse", yard.do, ("trestle", "z", 0, 0, 9)), ("BadPlace", yard.do, ("trestle", "z", 1, 9, 0)),
            ("BadPlace", edge, yard, ("weight", "b", 10), "most"), ("BadWeight", yard.do, ("board", "z", 9, 0, 9, 0)),
            ("Full", full.do, ("trestle", "z", 1, 0, 0)), ("Crowded", yard.do, ("trestle", "z", 1, 0, 9)),
            ("NoThing", yard.do, ("away", "z")), ("NoThing", edge, yard, ("trestle", "b"), "most"),
            ("NoThing", alone, yard, ["b", "t"]), ("NoThing", drawn, yard, "t"),
            ("NoThing", first_fall, yard, ["b", "b"]), ("InUse", yard.do, ("away", "b")),
            ("NoSack", yard.do, ("lift", "b")), ("NoSack", shows, yard, ("move", "b"), "most", [], NOUGHT),
            ("NoCord", yard.do, ("cut", "b")), ("NoCord", bars, yard, ("cord", "b"), [], NOUGHT),
            ("BadCord", yard.do, ("cord", "z", "b", "d", 1)), ("BadDeed", yard.do, ()),
            ("BadDeed", diary.enter, 1, ()), ("BadDeed", diary.correct, 1, 1, ("along", "a", 10**10)),
            ("BadAsk", grows, yard, ("sack", "s"), []), ("BadWay", edge, yard, ("move", "s"), "more"),
            ("BadDay", diary.enter, 0, ("lift", "a")), ("BadDay", diary.correct, 1, 0, ("lift", "a")),
            ("BadDay", diary.yard, 10000), ("NoEntry", diary.strike, 2), ("NoEntry", diary.word, 2),
            ("NoEntry", diary.correct, 2, 1, ("lift", "a")), ("NothingThere", diary.again),
            ("NothingThere", Diary().back), ("NoText", read, "next 0\n"),
        ]
        for name, call, *things in told:
            self.assertEqual(ask(call, *things), ("no", name), things)
            self.assertEqual((lists(yard), lists(full), state_of(diary)), before)
        classes = {name for name, one in vars(errors).items() if inspect.isclass(one)}
        self.assertEqual({row[0] for row in told}, classes - {"YardError"})


class WithoutBoardsTest(unittest.TestCase):
    def yards(self):
        fresh = yard_of(("board", "b", 1, 0, 9, 1))
        fresh.do(("away", "b"))
        diary = Diary()
        diary.enter(2, ("board", "b", 1, 0, 9, 1))
        trestles = yard_of(("trestle", "t", 1, 0, 9), ("trestle", "u", 2, 0, 9))
        return [Yard(), fresh, diary.yard(1), trestles, alone(yard_of(("board", "b", 1, 0, 9, 1)), [])]

    def test_it_stands(self):
        for yard in self.yards():
            self.assertEqual(stands(yard), ("stands", []))
            self.assertEqual((ends(yard), weights(yard)), ([], []))
            self.assertIs(holds(yard, [], []), True)
            self.assertEqual(lifts(yard, []), NOUGHT)

    def test_nothing_hangs_together_or_is_drawn_out(self):
        for yard in self.yards():
            before = lists(yard)
            self.assertEqual((groups(yard), drawable(yard), first_fall(yard, [])), ([], [], None))
            self.assertEqual(lists(alone(yard, [])), before)
            for name in ("b", "t", ""):
                self.assertEqual(ask(drawn, yard, name), ("no", "NoThing"))
                self.assertEqual(ask(alone, yard, [name]), ("no", "NoThing"))
                self.assertEqual(ask(first_fall, yard, [name]), ("no", "NoThing"))
            self.assertEqual(lists(yard), before)

    def test_a_trestle_bears_nothing(self):
        yard = self.yards()[3]
        for name in ("t", "u"):
            for way in ("least", "most"):
                self.assertEqual(edge(yard, ("trestle", name), way), ("edge", NOUGHT, [], [], NOUGHT))
                self.assertEqual(shows(yard, ("trestle", name), way, [], NOUGHT), NOUGHT)
            self.assertIs(bars(yard, ("trestle", name), [], NOUGHT), False)
            self.assertIs(grows(yard, ("trestle", name), []), False)

    def test_what_is_not_there(self):
        for yard in self.yards():
            for asked, name in [(("weight", "b", 1), "NoThing"), (("move", "s"), "NoSack"), (("trestle", "b"),
            "NoThing"),
                                (("cord", "c"), "NoCord"), ((), "BadAsk")]:
                self.assertEqual(ask(edge, yard, asked, "most"), ("no", name))
                self.assertEqual(ask(bars, yard, asked, [], NOUGHT), ("no", name))

    def test_at_a_desk(self):
        desk = Desk()
        for line, answer in [("stands 1", "yes"), ("draw 1", "none"), ("most 1 trestle t", "no NoThing"),
                             ("enter 1 trestle t 1 0 9", "1"), ("stands 1", "yes"), ("draw 1", "none"),
                             ("most 1 trestle t", "0/1"), ("least 1 trestle t", "0/1"), ("most 1 cord t", "no NoCord")]:
            self.assertEqual(desk.say(line), answer)


class HandedInTest(unittest.TestCase):
    def test_lists_that_are_handed_in_stay(self):
        yard = yard_of(("trestle", "t", 1, 0, 9), ("board", "b", 2, 0, 9, 1), ("board", "a", 3, 0, 9, 1),
                       ("sack", "s", "b", 1, 1))
        pushes, motion = stands(yard)[1], edge(yard, ("move", "s"), "most")[3]
        rows = weights(yard)
        for call, *things in [
                (holds, pushes, rows), (lifts, motion), (shows, ("move", "s"), "most", motion, NOUGHT),
                (bars, ("move", "s"), motion, NOUGHT), (grows, ("trestle", "t"), pushes), (alone, ["b", "a", "b"]),
                (first_fall, ["b", "a"]), (alone, ["b", "none"]), (first_fall, ["b", "b"])]:
            handed, before = copy.deepcopy(things), lists(yard)
            ask(call, yard, *things)
            self.assertEqual((things, lists(yard)), (handed, before))

    def test_told_lists_are_new_ones(self):
        yard = yard_of(("trestle", "t", 1, 0, 9), ("board", "b", 2, 0, 9, 1), ("board", "a", 3, 0, 9, 1))
        for call in (ends, weights, groups, drawable, lambda one: stands(one)[1]):
            told = call(yard)
            was = copy.deepcopy(told)
            told.clear()
            self.assertEqual(call(yard), was)
            call(yard).append("z")
            self.assertEqual(call(yard), was)


if __name__ == "__main__":
    unittest.main()
