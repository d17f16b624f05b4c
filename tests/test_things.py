"""Trestles and boards: set up, laid, taken away and shifted ([1], [2], [6])."""

import random
import unittest

from dunnage.yard import Yard
from tests.helpers import BAD_NAMES, END, Model, follow, lists, refusal, yard_of


class NumbersAndNamesTest(unittest.TestCase):
    def test_a_fresh_yard_is_empty(self):
        self.assertEqual(lists(Yard()), ([], [], [], []))

    def test_rows_as_they_are_told(self):
        yard = yard_of(("board", "plank", 2, -3, 8, 40), ("trestle", "horse", 1, 0, 2), ("trestle", "ass", 1, 5, 5))
        self.assertEqual(yard.boards(), [("plank", 2, -3, 8, 40)])
        self.assertEqual(yard.trestles(), [("ass", 1, 5, 5), ("horse", 1, 0, 2)])
        for row in yard.boards() + yard.trestles():
            self.assertIs(type(row), tuple)

    def test_names(self):
        for name in ("a", "z", "az", "abcdefgh", "zzzzzzzz"):
            self.assertIsNone(refusal(Yard(), ("trestle", name, 1, 0, 1)))
            self.assertIsNone(refusal(Yard(), ("board", name, 1, 0, 1, 1)))
        for name in BAD_NAMES:
            self.assertEqual(refusal(Yard(), ("trestle", name, 1, 0, 1)), "BadName", repr(name))
            self.assertEqual(refusal(Yard(), ("board", name, 1, 0, 1, 1)), "BadName", repr(name))

    def test_no_two_things_of_whatever_kind_have_one_name(self):
        yard = yard_of(
            ("trestle", "t", 1, 0, 1), ("board", "b", 2, 0, 9, 1), ("sack", "s", "b", 1, 1), ("cord", "c", "", "b", 1))
        for name in "tbsc":
            self.assertEqual(refusal(yard, ("trestle", name, 5, 0, 1)), "Taken")
            self.assertEqual(refusal(yard, ("board", name, 5, 0, 1, 1)), "Taken")
            self.assertEqual(refusal(yard, ("sack", name, "b", 1, 1)), "Taken")
            self.assertEqual(refusal(yard, ("cord", name, "", "b", 1)), "Taken")

    def test_courses(self):
        for course in range(1, 10):
            self.assertIsNone(refusal(Yard(), ("trestle", "a", course, 0, 1)))
            self.assertIsNone(refusal(Yard(), ("board", "a", course, 0, 1, 1)))
        for course in (0, -1, 10, 10**30, -10**5000, True, False):
            self.assertEqual(refusal(Yard(), ("trestle", "a", course, 0, 1)), "BadCourse")
            self.assertEqual(refusal(Yard(), ("board", "a", course, 0, 1, 1)), "BadCourse")

    def test_places(self):
        for left, right in [(-END, END), (-END, 1 - END), (END - 1, END), (-1, 0)]:
            self.assertIsNone(refusal(Yard(), ("trestle", "a", 1, left, right)))
            self.assertIsNone(refusal(Yard(), ("board", "a", 1, left, right, 1)))
        for left, right in [(-END - 1, 0), (0, END + 1), (END + 1, END + 2), (-END - 2, -END - 1), (-10**5000, 10**5000),
                            (1, 0), (END, -END), (False, 1), (0, True)]:
            self.assertEqual(refusal(Yard(), ("trestle", "a", 1, left, right)), "BadPlace")
            self.assertEqual(refusal(Yard(), ("board", "a", 1, left, right, 1)), "BadPlace")

    def test_one_place_is_enough_for_a_trestle_alone(self):
        for place in (-END, 0, END):
            self.assertIsNone(refusal(Yard(), ("trestle", "a", 1, place, place)))
            self.assertEqual(refusal(Yard(), ("board", "a", 1, place, place, 1)), "BadPlace")

    def test_weights(self):
        for weight in (1, 2, 10**9):
            self.assertIsNone(refusal(Yard(), ("board", "a", 1, 0, 1, weight)))
        for weight in (0, -1, 10**9 + 1, 10**5000, True):
            self.assertEqual(refusal(Yard(), ("board", "a", 1, 0, 1, weight)), "BadWeight")


class CrowdTest(unittest.TestCase):
    def laid_beside(self, first, second):
        """What is told where both stretches are set, for each mix of boards and trestles that takes them."""
        told = set()
        for kinds in (("trestle", "trestle"), ("trestle", "board"), ("board", "trestle"), ("board", "board")):
            deeds = []
            for kind, name, (left, right) in zip(kinds, "ab", (first, second)):
                if kind == "trestle":
                    deeds.append(("trestle", name, 4, left, right))
                elif left < right:
                    deeds.append(("board", name, 4, left, right, 7))
            if len(deeds) == 2:
                told.add(refusal(yard_of(deeds[0]), deeds[1]))
        return told

    def test_stretches_of_one_course(self):
        for first, second, answer in [
            ((0, 5), (5, 9), None),
            ((0, 5), (6, 9), None),
            ((0, 5), (4, 9), "Crowded"),
            ((0, 5), (0, 5), "Crowded"),
            ((0, 5), (1, 4), "Crowded"),
            ((0, 5), (0, 1), "Crowded"),
            ((0, 5), (4, 5), "Crowded"),
            ((0, 5), (3, 3), None),
            ((0, 5), (0, 0), None),
            ((0, 5), (5, 5), None),
            ((3, 3), (3, 3), None),
            ((-END, END), (END, END), None),
            ((-END, END), (END - 1, END), "Crowded"),
        ]:
            with self.subTest(first=first, second=second):
                self.assertEqual(self.laid_beside(first, second), {answer})
                self.assertEqual(self.laid_beside(second, first), {answer})

    def test_other_courses_do_not_crowd(self):
        yard = yard_of(("board", "a", 4, 0, 9, 1))
        self.assertIsNone(refusal(yard, ("board", "b", 3, 0, 9, 1)))
        self.assertIsNone(refusal(yard, ("trestle", "c", 5, 0, 9)))

    def test_long_rows_of_deeds_near_one_another(self):
        told = set()
        for seed in range(60):
            chance = random.Random(seed)
            yard, model = Yard(), Model()
            for turn in range(120):
                deed = near_deed(chance)
                told.add((deed[0], follow(self, yard, model, deed)))
        for kind in ("trestle", "board"):
            for answer in (None, "BadName", "Taken", "BadCourse", "BadPlace", "Full", "Crowded"):
                self.assertIn((kind, answer), told)
        self.assertIn(("board", "BadWeight"), told)


def near_deed(chance):
    """A trestle or a board in a few courses, or one taken away or shifted, with something wrong now and then."""
    name = chance.choice("abcdefghijklmnop") if chance.random() < 0.95 else chance.choice(BAD_NAMES)
    if chance.random() < 0.15:
        return ("away", name)
    if chance.random() < 0.25:
        return ("along", name, chance.choice([-3, -2, -1, 0, 1, 2, 3, END, -END]))
    course = chance.choice([1, 1, 2, 2, 3, 9]) if chance.random() < 0.95 else chance.choice([0, -4, 10])
    left = chance.randrange(-12, 12)
    right = left + chance.choice([-1, 0, 0, 1, 2, 3, 5])
    if chance.random() < 0.04:
        left, right = chance.choice([(-END - 1, right), (left, END + 1), (END - 1, END), (-END, 1 - END)])
    if chance.random() < 0.5:
        return ("trestle", name, course, left, right)
    weight = chance.choice([1, 5, 10**9]) if chance.random() < 0.95 else chance.choice([0, -2, 10**9 + 1])
    return ("board", name, course, left, right, weight)


class AwayTest(unittest.TestCase):
    def setUp(self):
        self.yard = yard_of(
            ("trestle", "t", 1, 0, 4), ("board", "low", 2, 0, 9, 1), ("board", "high", 3, 0, 9, 1),
            ("board", "free", 4, 0, 9, 1), ("board", "laden", 5, 0, 9, 1), ("sack", "s", "laden", 3, 5),
            ("cord", "c", "high", "low", 2))

    def test_boards_and_trestles_that_nothing_uses(self):
        self.assertIsNone(refusal(self.yard, ("away", "t")))
        self.assertIsNone(refusal(self.yard, ("away", "free")))
        self.assertEqual(self.yard.trestles(), [])
        self.assertEqual([row[0] for row in self.yard.boards()], ["high", "laden", "low"])
        self.assertEqual(refusal(self.yard, ("away", "t")), "NoThing")
        self.assertEqual(refusal(self.yard, ("away", "free")), "NoThing")

    def test_what_is_no_board_or_trestle(self):
        for name in ["none", "s", "c", *BAD_NAMES]:
            self.assertEqual(refusal(self.yard, ("away", name)), "NoThing", repr(name))

    def test_a_sack_keeps_its_board(self):
        self.assertEqual(refusal(self.yard, ("away", "laden")), "InUse")
        self.yard.do(("move", "s", "free", 0))
        self.assertIsNone(refusal(self.yard, ("away", "laden")))
        self.assertEqual(refusal(self.yard, ("away", "free")), "InUse")
        self.yard.do(("lift", "s"))
        self.assertIsNone(refusal(self.yard, ("away", "free")))

    def test_a_cord_keeps_both_its_boards(self):
        self.assertEqual(refusal(self.yard, ("away", "high")), "InUse")
        self.assertEqual(refusal(self.yard, ("away", "low")), "InUse")
        self.yard.do(("cut", "c"))
        self.assertIsNone(refusal(self.yard, ("away", "high")))
        self.assertIsNone(refusal(self.yard, ("away", "low")))

    def test_a_cord_from_the_beam_keeps_its_board(self):
        self.yard.do(("cord", "d", "", "free", 2))
        self.assertEqual(refusal(self.yard, ("away", "free")), "InUse")
        self.assertEqual(refusal(self.yard, ("away", "")), "NoThing")

    def test_a_name_and_a_stretch_are_free_again(self):
        self.yard.do(("away", "free"))
        self.assertIsNone(refusal(self.yard, ("trestle", "free", 4, 0, 9)))


class AlongTest(unittest.TestCase):
    def test_boards_and_trestles_are_shifted(self):
        yard = yard_of(("trestle", "t", 1, 0, 4), ("board", "b", 2, -2, 9, 6))
        for by, trestle, board in [(3, (3, 7), (1, 12)), (-10, (-7, -3), (-9, 2)), (0, (-7, -3), (-9, 2))]:
            self.assertIsNone(refusal(yard, ("along", "t", by)))
            self.assertIsNone(refusal(yard, ("along", "b", by)))
            self.assertEqual(yard.trestles(), [("t", 1, *trestle)])
            self.assertEqual(yard.boards(), [("b", 2, *board, 6)])

    def test_what_is_no_board_or_trestle(self):
        yard = yard_of(("board", "b", 2, 0, 9, 1), ("sack", "s", "b", 3, 5), ("cord", "c", "", "b", 2))
        for name in ["none", "s", "c", *BAD_NAMES]:
            self.assertEqual(refusal(yard, ("along", name, 1)), "NoThing", repr(name))
            self.assertEqual(refusal(yard, ("along", name, 10**5000)), "NoThing", repr(name))

    def test_up_to_the_last_place_and_no_farther(self):
        for deed in (("board", "b", 2, -2, 9, 6), ("trestle", "b", 2, -2, 9)):
            for by in (END - 9, 2 - END):
                self.assertIsNone(refusal(yard_of(deed), ("along", "b", by)))
            for by in (END - 8, 1 - END, 10**5000, -10**5000, True, False):
                self.assertEqual(refusal(yard_of(deed), ("along", "b", by)), "BadPlace")

    def test_sacks_are_shifted_with_their_board_alone(self):
        yard = yard_of(
            ("board", "b", 2, 0, 9, 6), ("board", "d", 3, 0, 9, 6), ("trestle", "t", 1, 0, 4), ("sack", "p", "b", 0, 1),
            ("sack", "q", "d", 3, 2), ("sack", "r", "b", 9, 3), ("sack", "s", "b", 9, 4))
        self.assertIsNone(refusal(yard, ("along", "b", -20)))
        self.assertEqual(yard.sacks(), [("p", "b", -20, 1), ("q", "d", 3, 2), ("r", "b", -11, 3), ("s", "b", -11, 4)])
        self.assertEqual(yard.boards(), [("b", 2, -20, -11, 6), ("d", 3, 0, 9, 6)])
        self.assertIsNone(refusal(yard, ("along", "t", 5)))
        self.assertEqual(yard.sacks(), [("p", "b", -20, 1), ("q", "d", 3, 2), ("r", "b", -11, 3), ("s", "b", -11, 4)])

    def test_cords_keep_their_boards(self):
        yard = yard_of(
            ("board", "low", 2, 0, 9, 1), ("board", "high", 3, 0, 9, 1), ("board", "hung", 4, 0, 9, 1),
            ("cord", "c", "high", "low", 2), ("cord", "d", "", "hung", 2))
        for name in ("low", "high", "hung"):
            self.assertEqual(refusal(yard, ("along", name, 0)), "InUse")
            self.assertEqual(refusal(yard, ("along", name, 1)), "InUse")
        yard.do(("cut", "c"))
        self.assertIsNone(refusal(yard, ("along", "low", 1)))
        self.assertIsNone(refusal(yard, ("along", "high", 1)))

    def test_a_thing_crowds_others_and_not_itself(self):
        yard = yard_of(("board", "b", 2, 0, 10, 1), ("trestle", "t", 2, 15, 20), ("board", "d", 3, 12, 20, 1))
        self.assertIsNone(refusal(yard, ("along", "b", 1)))
        self.assertIsNone(refusal(yard, ("along", "b", 4)))
        self.assertEqual(refusal(yard, ("along", "b", 1)), "Crowded")
        self.assertEqual(refusal(yard, ("along", "t", -1)), "Crowded")
        self.assertIsNone(refusal(yard, ("along", "b", 15)))

    def test_long_rows_with_sacks_and_cords(self):
        told = set()
        for seed in range(60):
            chance = random.Random(1000 + seed)
            yard, model = Yard(), Model()
            for turn in range(100):
                deed = used_deed(chance, model)
                told.add((deed[0], follow(self, yard, model, deed)))
        for answer in (None, "NoThing", "InUse"):
            self.assertIn(("away", answer), told)
        for answer in (None, "NoThing", "BadPlace", "InUse", "Crowded"):
            self.assertIn(("along", answer), told)


def used_deed(chance, model):
    """Things taken away and shifted, with sacks and cords put on them."""
    boards = model.of("board") or ["none"]
    name = chance.choice("abcdefghijkl")
    board = chance.choice(boards)
    kind = chance.choice(["trestle", "board", "board", "away", "along", "along", "along", "sack", "cord", "cut"])
    if kind == "away":
        return ("away", name)
    if kind == "along":
        return ("along", name, chance.choice([-40, -5, -1, 0, 1, 5, 40, END, -END]))
    if kind == "sack":
        return ("sack", name, board, chance.randrange(-30, 30), 3)
    if kind == "cord":
        return ("cord", name, chance.choice(boards + [""]), board, chance.randrange(-30, 30))
    if kind == "cut":
        return ("cut", chance.choice(model.of("cord") or [name]))
    left = chance.randrange(-30, 20)
    course = chance.choice([1, 2, 3])
    return (kind, name, course, left, left + 10) + ((8,) if kind == "board" else ())


if __name__ == "__main__":
    unittest.main()
