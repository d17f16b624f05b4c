"""A yard stands, shown by pushes, or comes down, shown by a motion ([8], [9])."""

import random
import unittest

from dunnage.papers import holds, lifts
from dunnage.seek import stands
from dunnage.touch import weights
from dunnage.yard import Yard
from tests.helpers import (
    END, any_stack, lists, own_holds, own_let, own_lifts, own_weights, stack_deeds, told_motion, told_pushes, yard_of,
)


def check_stands(test, yard):
    """Whether it stands; what shows it is right by sums of the test's own."""
    before = lists(yard)
    answer = stands(yard)
    test.assertEqual(lists(yard), before)
    test.assertIs(type(answer), tuple)
    test.assertEqual(len(answer), 2)
    if answer[0] == "stands":
        told_pushes(test, yard, answer[1])
        test.assertTrue(own_holds(yard, answer[1], own_weights(yard)))
        test.assertIs(holds(yard, answer[1], weights(yard)), True)
        return True
    test.assertEqual(answer[0], "falls")
    told_motion(test, yard, answer[1])
    test.assertTrue(own_let(yard, answer[1]))
    test.assertLess(own_lifts(answer[1], own_weights(yard)), 0)
    test.assertLess(lifts(yard, answer[1])[0], 0)
    return False


class HandmadeTest(unittest.TestCase):
    def check(self, answer, *deeds):
        self.assertEqual(check_stands(self, yard_of(*deeds)), answer)

    def test_without_boards(self):
        self.assertEqual(stands(Yard()), ("stands", []))
        self.assertEqual(stands(yard_of(("trestle", "t", 1, 0, 9), ("trestle", "u", 2, 0, 9))), ("stands", []))

    def test_a_board_on_nothing(self):
        self.check(False, ("board", "b", 1, 0, 9, 1))
        self.check(False, ("board", "b", 1, 0, 9, 1), ("trestle", "t", 2, 0, 9))
        self.check(False, ("board", "b", 3, 0, 9, 1), ("trestle", "t", 1, 0, 9))

    def test_overhang(self):
        trestle = ("trestle", "t", 1, 0, 4)
        for left, right, answer in [(0, 4, True), (0, 8, True), (0, 9, False), (-9, 9, True), (-10, 9, False),
                                    (4, 5, False), (-4, 12, True), (-4, 13, False), (1, 3, True), (3, 5, True)]:
            self.check(answer, trestle, ("board", "b", 2, left, right, 7))

    def test_a_sack_holds_an_overhang_or_brings_it_down(self):
        deeds = [("trestle", "t", 1, 0, 4), ("board", "b", 2, 0, 10, 6)]
        self.check(False, *deeds)
        self.check(False, *deeds, ("sack", "s", "b", 0, 1))
        self.check(True, *deeds, ("sack", "s", "b", 0, 2))
        self.check(True, *deeds, ("sack", "s", "b", 3, 6))
        self.check(False, *deeds, ("sack", "s", "b", 3, 5))
        self.check(False, *deeds, ("sack", "s", "b", 4, 10**9))

    def test_a_trestle_above_holds_down(self):
        deeds = [("trestle", "t", 1, 0, 4), ("board", "b", 2, 0, 10, 6)]
        self.check(True, *deeds, ("trestle", "u", 3, 0, 0))
        self.check(True, *deeds, ("trestle", "u", 3, 3, 3))
        self.check(False, *deeds, ("trestle", "u", 3, 4, 4))
        self.check(False, *deeds, ("trestle", "u", 3, 10, 10))

    def test_cords(self):
        board = ("board", "b", 2, 0, 10, 6)
        self.check(True, board, ("cord", "c", "", "b", 5))
        self.check(False, board, ("cord", "c", "", "b", 4))
        self.check(True, board, ("cord", "c", "", "b", 4), ("cord", "d", "", "b", 10))
        self.check(False, board, ("cord", "c", "", "b", 4), ("cord", "d", "", "b", 1))
        low = ("board", "a", 1, 0, 10, 6)
        self.check(True, board, low, ("cord", "c", "", "b", 5), ("cord", "d", "b", "a", 5))
        # Lying on the lower one it stands; further up the cord is no stay for it, as a cord only pulls.
        self.check(True, board, low, ("cord", "c", "", "a", 5), ("cord", "d", "b", "a", 5))
        high = ("board", "b", 3, 0, 10, 6)
        self.check(False, high, low, ("cord", "c", "", "a", 5), ("cord", "d", "b", "a", 5))
        self.check(True, high, low, ("cord", "c", "", "b", 5), ("cord", "d", "b", "a", 5))

    def test_a_cord_from_a_board_lifts_a_lower_end(self):
        deeds = [
            ("trestle", "t", 1, 0, 0), ("board", "a", 2, 0, 10, 6), ("trestle", "u", 4, 8, 12),
            ("board", "b", 5, 2, 16, 2)]
        self.check(False, *deeds)
        self.check(False, *deeds, ("cord", "c", "b", "a", 5))
        self.check(True, *deeds, ("cord", "c", "b", "a", 9))

    def test_each_on_the_other(self):
        self.check(True, ("trestle", "t", 1, 0, 0), ("trestle", "u", 1, 9, 9), ("board", "a", 2, 0, 9, 1),
                   ("board", "b", 3, 4, 12, 1), ("board", "d", 3, 0, 4, 1), ("board", "e", 4, 3, 9, 1))

    def test_one_that_falls_is_enough(self):
        self.check(False, ("trestle", "t", 1, 0, 9), ("board", "a", 2, 0, 9, 1), ("board", "z", 9, 0, 9, 1))
        self.check(False, ("trestle", "t", 1, 0, 9), ("board", "z", 2, 0, 9, 1), ("board", "a", 9, 0, 9, 1))

    def test_at_the_farthest_and_the_heaviest(self):
        self.check(True, ("trestle", "t", 1, -END, -END), ("trestle", "u", 1, END, END),
                   ("board", "b", 2, -END, END, 10**9), ("sack", "s", "b", END, 10**9))
        self.check(True, ("trestle", "t", 1, END - 1, END), ("board", "b", 2, END - 1, END, 10**9))
        self.check(True, ("trestle", "t", 1, 0, 0), ("board", "b", 2, -END, END, 10**9))
        self.check(False, ("trestle", "t", 1, 0, 0), ("board", "b", 2, -END, END, 10**9), ("sack", "s", "b", 1, 1))
        self.check(False, ("trestle", "t", 1, 0, 0), ("board", "b", 2, 1 - END, END, 1))


class ManyStacksTest(unittest.TestCase):
    def test_stacks(self):
        told = [check_stands(self, any_stack(random.Random(seed))) for seed in range(300)]
        self.assertGreater(told.count(True), 60)
        self.assertGreater(told.count(False), 60)

    def test_full_yards(self):
        for seed in range(100):
            chance = random.Random(seed)
            yard = any_stack(chance, boards=6, trestles=6, sacks=8, cords=4, weights=(1, 10**9, 999999937, 12345))
            check_stands(self, yard)

    def test_behind_each_deed_and_asked_again(self):
        for seed in range(40):
            yard = Yard()
            for deed in stack_deeds(random.Random(seed)):
                yard.do(deed)
                check_stands(self, yard)
                answer = stands(yard)
                kept = list(answer[1])
                answer[1].clear()
                self.assertEqual(stands(yard), (answer[0], kept))
                self.assertEqual(stands(yard.twin()), (answer[0], kept))


if __name__ == "__main__":
    unittest.main()
