"""Where things touch, the ends of a yard and its weights ([3], [4], [5], [7])."""

import random
import unittest

from dunnage.touch import ends, weights
from dunnage.yard import Yard
from tests.helpers import (
    END, Model, any_deed, any_stack, as_part, follow, lists, own_ends, own_weights, stack_deeds, yard_of,
)


class EndsTest(unittest.TestCase):
    def told(self, *deeds):
        return ends(yard_of(*deeds))

    def test_an_empty_yard_and_trestles_alone(self):
        self.assertEqual(ends(Yard()), [])
        self.assertEqual(self.told(("trestle", "a", 1, 0, 9), ("trestle", "b", 2, 0, 9)), [])

    def test_both_ends_of_the_common_stretch(self):
        self.assertEqual(
            self.told(("trestle", "t", 1, 0, 9), ("board", "b", 2, -3, 5, 1)), [("", "b", "t", 0), ("", "b", "t", 5)])
        self.assertEqual(
            self.told(("trestle", "t", 1, 2, 4), ("board", "b", 2, -3, 5, 1)), [("", "b", "t", 2), ("", "b", "t", 4)])
        self.assertEqual(
            self.told(("board", "t", 1, 0, 9, 1), ("board", "b", 2, 2, 3, 1)), [("", "b", "t", 2), ("", "b", "t", 3)])

    def test_one_place_alone(self):
        self.assertEqual(self.told(("trestle", "t", 1, 0, 9), ("board", "b", 2, 9, 12, 1)), [("", "b", "t", 9)])
        self.assertEqual(self.told(("trestle", "t", 1, 4, 4), ("board", "b", 2, 0, 9, 1)), [("", "b", "t", 4)])
        self.assertEqual(self.told(("trestle", "t", 1, 0, 0), ("board", "b", 2, 0, 9, 1)), [("", "b", "t", 0)])

    def test_no_place_in_common(self):
        self.assertEqual(self.told(("trestle", "t", 1, 0, 9), ("board", "b", 2, 10, 12, 1)), [])
        self.assertEqual(self.told(("trestle", "t", 1, 0, 9), ("board", "b", 2, -5, -1, 1)), [])

    def test_the_next_course_alone(self):
        self.assertEqual(self.told(("trestle", "t", 1, 0, 9), ("board", "b", 3, 0, 9, 1)), [])
        self.assertEqual(self.told(("board", "a", 2, 0, 5, 1), ("board", "b", 2, 5, 9, 1)), [])
        self.assertEqual(
            self.told(("trestle", "t", 8, 0, 9), ("board", "b", 9, 0, 9, 1)), [("", "b", "t", 0), ("", "b", "t", 9)])

    def test_a_trestle_above_a_board(self):
        self.assertEqual(
            self.told(("trestle", "t", 3, 0, 4), ("board", "b", 2, 2, 9, 1)), [("", "t", "b", 2), ("", "t", "b", 4)])

    def test_a_trestle_of_one_place_within_anothers_stretch(self):
        self.assertEqual(
            self.told(("trestle", "t", 1, 0, 9), ("trestle", "u", 1, 4, 4), ("board", "b", 2, 0, 9, 1)),
            [("", "b", "t", 0), ("", "b", "t", 9), ("", "b", "u", 4)])

    def test_order(self):
        yard = yard_of(
            ("trestle", "m", 1, -9, 9), ("board", "z", 2, -20, 0, 1), ("board", "a", 2, 0, 20, 1),
            ("board", "k", 3, -5, 5, 1), ("trestle", "b", 3, 10, 10), ("cord", "y", "", "k", 0),
            ("cord", "c", "k", "a", 3), ("cord", "x", "k", "z", -3))
        self.assertEqual(ends(yard), [
            ("", "a", "m", 0), ("", "a", "m", 9), ("", "b", "a", 10), ("", "k", "a", 0), ("", "k", "a", 5),
            ("", "k", "z", -5), ("", "k", "z", 0), ("", "z", "m", -9), ("", "z", "m", 0),
            ("c", "k", "a", 3), ("x", "k", "z", -3), ("y", "", "k", 0)])

    def test_several_cords_of_two_boards(self):
        yard = yard_of(
            ("board", "a", 1, 0, 9, 1), ("board", "b", 9, 0, 9, 1), ("cord", "q", "b", "a", 4),
            ("cord", "p", "b", "a", 4), ("cord", "r", "", "a", 4))
        self.assertEqual(ends(yard), [("p", "b", "a", 4), ("q", "b", "a", 4), ("r", "", "a", 4)])

    def test_at_the_farthest_places(self):
        self.assertEqual(
            self.told(("trestle", "t", 1, -END, END), ("board", "b", 2, -END, END, 1)),
            [("", "b", "t", -END), ("", "b", "t", END)])


class WeightsTest(unittest.TestCase):
    def test_boards_then_sacks(self):
        yard = yard_of(
            ("board", "z", 1, 0, 9, 7), ("board", "b", 2, -4, 2, 10**9), ("sack", "y", "b", 0, 3),
            ("sack", "a", "z", 9, 1), ("sack", "c", "b", -4, 5), ("trestle", "d", 9, 0, 0))
        self.assertEqual(weights(yard), [
            ("b", (-1, 1), (10**9, 1)), ("z", (9, 2), (7, 1)), ("z", (9, 1), (1, 1)), ("b", (-4, 1), (5, 1)),
            ("b", (0, 1), (3, 1))])

    def test_middles_at_halves_and_at_nought(self):
        for left, right, middle in [
                (-1, 1, (0, 1)), (0, 1, (1, 2)), (-1, 0, (-1, 2)), (-4, -1, (-5, 2)), (2, 4, (3, 1))]:
            self.assertEqual(weights(yard_of(("board", "b", 1, left, right, 6))), [("b", middle, (6, 1))])

    def test_none(self):
        self.assertEqual(weights(Yard()), [])
        self.assertEqual(weights(yard_of(("trestle", "d", 9, 0, 0))), [])


class ManyStacksTest(unittest.TestCase):
    def check(self, yard):
        before = lists(yard)
        self.assertEqual(ends(yard), own_ends(yard))
        self.assertEqual(
            weights(yard), [(board, as_part(place), as_part(weight)) for board, place, weight in own_weights(yard)])
        for told in (ends(yard), weights(yard)):
            self.assertIs(type(told), list)
            for row in told:
                self.assertIs(type(row), tuple)
        for board, place, weight in weights(yard):
            for part in (place, weight):
                self.assertIs(type(part), tuple)
                self.assertEqual([type(number) for number in part], [int, int])
        self.assertEqual(lists(yard), before)

    def test_stacks(self):
        for seed in range(300):
            self.check(any_stack(random.Random(seed)))

    def test_behind_further_deeds(self):
        for seed in range(40):
            chance = random.Random(seed)
            yard, model = Yard(), Model()
            for deed in stack_deeds(chance):
                follow(self, yard, model, deed)
                self.check(yard)
            for turn in range(60):
                follow(self, yard, model, any_deed(chance, model, "abcdefghijklmnopqrstuvwxyz"))
                self.check(yard)

    def test_told_lists_that_are_changed(self):
        for seed in range(30):
            yard = any_stack(random.Random(seed))
            for ask in (ends, weights):
                told = ask(yard)
                kept = list(told)
                told.reverse()
                told.append(("", "x", "y", 0))
                self.assertEqual(ask(yard), kept)
                told.clear()
                self.assertEqual(ask(yard), kept)
                self.assertIsNot(ask(yard), ask(yard))


if __name__ == "__main__":
    unittest.main()
