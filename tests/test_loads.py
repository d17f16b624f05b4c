"""Sacks and cords ([4], [6])."""

import random
import unittest

from dunnage.yard import Yard
from tests.helpers import BAD_NAMES, END, Model, follow, refusal, yard_of


class SackTest(unittest.TestCase):
    def setUp(self):
        self.yard = yard_of(
            ("trestle", "t", 1, 0, 9), ("board", "b", 2, -4, 9, 1), ("board", "d", 3, 6, 20, 1),
            ("sack", "s", "b", 1, 5), ("cord", "c", "d", "b", 7))

    def test_on_its_board_at_its_ends_and_beyond(self):
        for place in (-4, 0, 9):
            self.yard.do(("sack", "p", "b", place, 2))
            self.assertEqual(self.yard.sacks(), [("p", "b", place, 2), ("s", "b", 1, 5)])
            self.yard.do(("lift", "p"))
        for place in (-5, 10, END, -END, END + 1, 10**5000, True, False):
            self.assertEqual(refusal(self.yard, ("sack", "p", "b", place, 2)), "BadPlace")
            self.assertEqual(refusal(self.yard, ("move", "s", "b", place)), "BadPlace")

    def test_many_at_one_place(self):
        for name in "pqr":
            self.assertIsNone(refusal(self.yard, ("sack", name, "b", 1, 2)))
        self.assertEqual([row[2] for row in self.yard.sacks()], [1, 1, 1, 1])

    def test_names(self):
        for name in BAD_NAMES:
            self.assertEqual(refusal(self.yard, ("sack", name, "b", 1, 2)), "BadName", repr(name))
        self.assertIsNone(refusal(self.yard, ("sack", "abcdefgh", "b", 1, 2)))

    def test_weights(self):
        for weight in (1, 10**9):
            self.assertIsNone(refusal(self.yard, ("sack", "p", "b", 1, weight)))
            self.yard.do(("lift", "p"))
        for weight in (0, -1, 10**9 + 1, 10**5000, True):
            self.assertEqual(refusal(self.yard, ("sack", "p", "b", 1, weight)), "BadWeight")

    def test_it_stands_on_a_board_alone(self):
        for board in ["none", "t", "s", "c", *BAD_NAMES]:
            self.assertEqual(refusal(self.yard, ("sack", "p", board, 1, 2)), "NoThing", repr(board))
            self.assertEqual(refusal(self.yard, ("move", "s", board, 1)), "NoThing", repr(board))

    def test_moved_along_and_to_another_board(self):
        for board, place in [("b", -4), ("b", 9), ("d", 6), ("d", 20), ("b", 1), ("b", 1)]:
            self.assertIsNone(refusal(self.yard, ("move", "s", board, place)))
            self.assertEqual(self.yard.sacks(), [("s", board, place, 5)])

    def test_what_is_no_sack(self):
        for name in ["none", "t", "b", "c", *BAD_NAMES]:
            self.assertEqual(refusal(self.yard, ("move", name, "b", 1)), "NoSack", repr(name))
            self.assertEqual(refusal(self.yard, ("lift", name)), "NoSack", repr(name))

    def test_lifted(self):
        self.assertIsNone(refusal(self.yard, ("lift", "s")))
        self.assertEqual(self.yard.sacks(), [])
        self.assertEqual(refusal(self.yard, ("lift", "s")), "NoSack")
        self.assertIsNone(refusal(self.yard, ("trestle", "s", 9, 0, 1)))

    def test_long_rows(self):
        told = set()
        for seed in range(40):
            chance = random.Random(seed)
            yard, model = Yard(), Model()
            for deed in [("board", "b", 2, -4, 9, 1), ("board", "d", 2, 9, 11, 1), ("trestle", "t", 1, 0, 9)]:
                follow(self, yard, model, deed)
            for turn in range(100):
                deed = self.some_deed(chance)
                told.add((deed[0], follow(self, yard, model, deed)))
        for answer in (None, "BadName", "Taken", "NoThing", "BadPlace", "BadWeight", "Full"):
            self.assertIn(("sack", answer), told)
        for answer in (None, "NoSack", "NoThing", "BadPlace"):
            self.assertIn(("move", answer), told)
        self.assertIn(("lift", None), told)
        self.assertIn(("lift", "NoSack"), told)

    def some_deed(self, chance):
        name = chance.choice(["p", "q", "r", "s", "u", "v", "w", "x", "y", "z", "t", "b", "Q"])
        board = chance.choice(["b", "b", "d", "d", "t", "none"])
        place = chance.randrange(-6, 14)
        weight = chance.choice([1, 2, 3, 10**9, 10**9, 0])
        if chance.random() < 0.1:
            return ("lift", name)
        return chance.choice([("sack", name, board, place, weight)] * 2 + [("move", name, board, place)])


class CordTest(unittest.TestCase):
    def setUp(self):
        self.yard = yard_of(
            ("trestle", "t", 1, 0, 9), ("board", "low", 2, -4, 9, 1), ("board", "mid", 3, 6, 20, 1),
            ("board", "beside", 3, 20, 30, 1), ("board", "high", 9, -50, 50, 1), ("sack", "s", "low", 1, 5))

    def test_between_boards(self):
        for place in (6, 7, 9):
            self.assertIsNone(refusal(self.yard, ("cord", "c", "mid", "low", place)))
            self.assertEqual(self.yard.cords(), [("c", "mid", "low", place)])
            self.assertIsNone(refusal(self.yard, ("cut", "c")))
        for place in (5, 10, -4, 20, END + 1, 10**5000, True):
            self.assertEqual(refusal(self.yard, ("cord", "c", "mid", "low", place)), "BadPlace")

    def test_over_several_courses(self):
        for lower, places in [("low", (-4, 9)), ("mid", (6, 20))]:
            for place in places:
                self.assertIsNone(refusal(self.yard, ("cord", "c", "high", lower, place)))
                self.yard.do(("cut", "c"))

    def test_from_the_beam(self):
        for place in (-50, 0, 50):
            self.assertIsNone(refusal(self.yard, ("cord", "c", "", "high", place)))
            self.assertEqual(self.yard.cords(), [("c", "", "high", place)])
            self.yard.do(("cut", "c"))
        for place in (-51, 51, END + 1, -10**5000):
            self.assertEqual(refusal(self.yard, ("cord", "c", "", "high", place)), "BadPlace")

    def test_from_the_beam_at_the_last_places(self):
        yard = yard_of(("board", "b", 9, -END, END, 1), ("cord", "c", "", "b", -END), ("cord", "d", "", "b", END))
        self.assertEqual(yard.cords(), [("c", "", "b", -END), ("d", "", "b", END)])

    def test_the_upper_board_is_in_a_higher_course(self):
        for upper, lower in [("low", "mid"), ("mid", "high"), ("mid", "mid"), ("beside", "mid"), ("mid", "beside")]:
            self.assertEqual(refusal(self.yard, ("cord", "c", upper, lower, 20)), "BadCord")
            self.assertEqual(refusal(self.yard, ("cord", "c", upper, lower, 1000)), "BadCord")

    def test_it_is_tied_to_boards_alone(self):
        self.yard.do(("cord", "other", "", "low", 7))
        for name in ["none", "t", "s", "other", "A", "abcdefghi"]:
            self.assertEqual(refusal(self.yard, ("cord", "c", name, "low", 7)), "NoThing", name)
            self.assertEqual(refusal(self.yard, ("cord", "c", "high", name, 7)), "NoThing", name)
            self.assertEqual(refusal(self.yard, ("cord", "c", "", name, 7)), "NoThing", name)
        self.assertEqual(refusal(self.yard, ("cord", "c", "high", "", 7)), "NoThing")
        self.assertEqual(refusal(self.yard, ("cord", "c", "", "", 7)), "NoThing")

    def test_names(self):
        for name in BAD_NAMES:
            self.assertEqual(refusal(self.yard, ("cord", name, "mid", "low", 7)), "BadName", repr(name))
        self.assertIsNone(refusal(self.yard, ("cord", "abcdefgh", "mid", "low", 7)))

    def test_many_at_one_place(self):
        for name in "pqr":
            self.assertIsNone(refusal(self.yard, ("cord", name, "mid", "low", 7)))

    def test_what_is_no_cord(self):
        self.yard.do(("cord", "c", "mid", "low", 7))
        for name in ["none", "t", "low", "s", *BAD_NAMES]:
            self.assertEqual(refusal(self.yard, ("cut", name)), "NoCord", repr(name))

    def test_cut(self):
        self.yard.do(("cord", "c", "mid", "low", 7))
        self.assertIsNone(refusal(self.yard, ("cut", "c")))
        self.assertEqual(self.yard.cords(), [])
        self.assertEqual(refusal(self.yard, ("cut", "c")), "NoCord")
        self.assertIsNone(refusal(self.yard, ("trestle", "c", 7, 0, 1)))

    def test_long_rows(self):
        told = set()
        for seed in range(60):
            chance = random.Random(seed)
            yard, model = Yard(), Model()
            for deed in [("trestle", "t", 1, 0, 9), ("board", "low", 2, -4, 9, 1), ("board", "mid", 3, 6, 20, 1),
                         ("board", "side", 3, 0, 6, 1), ("board", "high", 9, -50, 8, 1)]:
                follow(self, yard, model, deed)
            for turn in range(60):
                deed = self.some_deed(chance)
                told.add((deed[0], follow(self, yard, model, deed)))
        for answer in (None, "BadName", "Taken", "NoThing", "BadCord", "BadPlace", "Full"):
            self.assertIn(("cord", answer), told)
        self.assertIn(("cut", None), told)
        self.assertIn(("cut", "NoCord"), told)

    def some_deed(self, chance):
        name = chance.choice(["p", "q", "r", "s", "u", "t", "low", "B"])
        if chance.random() < 0.2:
            return ("cut", name)
        upper = chance.choice(["", "", "low", "mid", "side", "high", "high", "t", "none"])
        lower = chance.choice(["low", "low", "mid", "side", "high", "t", ""])
        return ("cord", name, upper, lower, chance.choice([-5, -4, 0, 5, 6, 7, 8, 9, 10]))


if __name__ == "__main__":
    unittest.main()
