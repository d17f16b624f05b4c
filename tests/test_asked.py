"""What is asked for is refused in one order, each by its own class, in edge, shows, bars and grows ([10])."""

import itertools
import random
import unittest

from dunnage import errors
from dunnage.papers import bars, grows, shows
from dunnage.seek import edge
from dunnage.yard import Yard
from tests.helpers import BAD_NAMES, END, all_asked, any_stack, lists, yard_of

NOUGHT = (0, 1)
ASKED = [("weight", "b", 1), ("move", "s"), ("trestle", "t"), ("cord", "c")]


def some_yard():
    return yard_of(
        ("trestle", "t", 1, 0, 9), ("board", "b", 2, -4, 9, 5), ("board", "d", 3, 0, 4, 1), ("sack", "s", "b", 1, 1),
        ("cord", "c", "d", "b", 1))


def still(yard):
    return [(row[0], NOUGHT, NOUGHT) for row in yard.boards()]


def refusals(test, yard, asked, way="most"):
    """The names of the classes by which all four refuse it; None where it is not refused."""
    told = []
    for ask in [lambda: edge(yard, asked, way), lambda: shows(yard, asked, way, still(yard), NOUGHT),
                lambda: bars(yard, asked, still(yard), NOUGHT), lambda: grows(yard, asked, [])]:
        before = lists(yard)
        try:
            ask()
            told.append(None)
        except errors.YardError as error:
            test.assertIs(type(error), getattr(errors, type(error).__name__))
            test.assertEqual(type(error).__bases__, (errors.YardError,))
            told.append(type(error).__name__)
        test.assertEqual(lists(yard), before)
    return told


class AskedTest(unittest.TestCase):
    def check(self, asked, answer, yard=None):
        for way in ("most", "least"):
            self.assertEqual(refusals(self, yard or some_yard(), asked, way), [answer] * 4, asked)

    def test_good_ones(self):
        for asked in [("weight", "b", -4), ("weight", "b", 9), ("weight", "d", 0), *ASKED]:
            self.check(asked, None)

    def test_none_of_the_four_forms(self):
        for asked in [(), ("weight",), ("weight", "b"), ("weight", "b", 1, 1), ("move",), ("move", "s", 1),
                      ("move", "s", "b", 1), ("trestle",), ("trestle", "t", 1), ("cord",), ("cord", "c", 1),
                      ("cord", "c", "c"), ("sack", "s"), ("board", "b"), ("Weight", "b", 1), ("", "b"),
                      ("weight ", "b", 1), ("moves", "s"), ("b",), ("most", "t")]:
            self.check(asked, "BadAsk")

    def test_no_such_board_or_trestle(self):
        for name in ["none", "t", "s", "c", *BAD_NAMES]:
            self.check(("weight", name, 1), "NoThing")
        for name in ["none", "b", "d", "s", "c", *BAD_NAMES]:
            self.check(("trestle", name), "NoThing")

    def test_no_such_sack_or_cord(self):
        for name in ["none", "b", "t", "c", *BAD_NAMES]:
            self.check(("move", name), "NoSack")
        for name in ["none", "b", "t", "s", *BAD_NAMES]:
            self.check(("cord", name), "NoCord")

    def test_a_place_that_is_not_on_the_board(self):
        for place in (-5, 10, END, -END, END + 1, 10**30):
            self.check(("weight", "b", place), "BadPlace")
        for place in (-1, 5, 9):
            self.check(("weight", "d", place), "BadPlace")

    def test_their_order(self):
        self.check(("weight", "none", 99, 1), "BadAsk")
        self.check(("weight", "none", 99), "NoThing")
        self.check(("weight", "b", 99), "BadPlace")
        self.check(("move", "none", 1), "BadAsk")
        self.check(("trestle", "none", 1), "BadAsk")
        self.check(("cord", "none", 1), "BadAsk")

    def test_an_empty_yard(self):
        for asked, answer in [((), "BadAsk"), (("weight", "b", 1), "NoThing"), (("trestle", "t"), "NoThing"),
                              (("move", "s"), "NoSack"), (("cord", "c"), "NoCord")]:
            self.check(asked, answer, Yard())

    def test_things_that_are_gone(self):
        yard = some_yard()
        for deed, asked, answer in [
                (("cut", "c"), ("cord", "c"), "NoCord"), (("lift", "s"), ("move", "s"), "NoSack"),
                (("away", "d"), ("weight", "d", 1), "NoThing"), (("along", "b", 3), ("weight", "b", -4), "BadPlace"),
                (("away", "t"), ("trestle", "t"), "NoThing")]:
            self.check(asked, None, yard)
            yard.do(deed)
            self.check(asked, answer, yard)

    def test_many_stacks(self):
        names = ["none", "", "a", "z"]
        for seed in range(30):
            chance = random.Random(seed)
            yard = any_stack(chance)
            for asked in all_asked(yard, chance):
                self.check(asked, None, yard)
                self.check(asked + (1,), "BadAsk", yard)
                self.check(asked[:1], "BadAsk", yard)
            rows = yard.boards() + yard.trestles() + yard.sacks() + yard.cords()
            for name, form in itertools.product([*names, *[row[0] for row in rows]], ("move", "trestle", "cord")):
                there = {"move": yard.sacks(), "trestle": yard.trestles(), "cord": yard.cords()}[form]
                wrong = {"move": "NoSack", "trestle": "NoThing", "cord": "NoCord"}[form]
                self.check((form, name), None if name in [row[0] for row in there] else wrong, yard)


class WayTest(unittest.TestCase):
    WRONG = ("", "Most", "LEAST", "more", "less", "none", "most ", "any", "leas")

    def test_another_way(self):
        for way in self.WRONG:
            for asked in ASKED:
                told = refusals(self, some_yard(), asked, way)
                self.assertEqual(told, ["BadWay", "BadWay", None, None], (way, asked))

    def test_behind_the_refusals_of_what_is_asked_for(self):
        for way in self.WRONG:
            for asked, answer in [((), "BadAsk"), (("weight", "none", 99), "NoThing"), (("trestle", "none"), "NoThing"),
                                  (("move", "none"), "NoSack"), (("cord", "none"), "NoCord"),
                                  (("weight", "b", 99), "BadPlace")]:
                self.assertEqual(refusals(self, some_yard(), asked, way), [answer] * 4, (way, asked))

    def test_whatever_the_motion_and_the_stop_are(self):
        yard = some_yard()
        for motion in [[], still(yard), still(yard)[::-1], [("none", (-9, 1), (1, 2))]]:
            for stop in [NOUGHT, (1, 2), (-1, 2)]:
                for asked in ASKED:
                    with self.assertRaises(errors.BadWay):
                        shows(yard, asked, "many", motion, stop)
                    with self.assertRaises(errors.BadAsk):
                        shows(yard, asked + (1,), "most", motion, stop)
                    with self.assertRaises(errors.BadAsk):
                        bars(yard, asked + (1,), motion, stop)


if __name__ == "__main__":
    unittest.main()
