"""Motions: which are let, and what they lift ([8])."""

import random
import unittest
from fractions import Fraction

from dunnage.papers import lifts
from dunnage.seek import edge, stands
from dunnage.yard import Yard
from tests.helpers import (
    all_asked, any_stack, as_part, lists, own_let, own_lifts, own_weights, worth, yard_of,
)


def any_motion(chance, yard):
    """Motions that are let now and then: all still, all up or down as one, rising by courses, or anything."""
    kind = chance.choice(["still", "as one", "by courses", "any", "great"])
    rise, tilt = Fraction(chance.randint(-5, 5), chance.choice([1, 3])), Fraction(chance.randint(-2, 2), 4)
    motion = []
    for name, course, left, right, weight in yard.boards():
        if kind == "still":
            rise, tilt = Fraction(0), Fraction(0)
        if kind == "by courses":
            rise, tilt = Fraction(chance.choice([course, course, 1])), Fraction(0)
        if kind == "any":
            rise, tilt = Fraction(chance.randint(-3, 9), 2), Fraction(chance.randint(-1, 1), 9)
        if kind == "great":
            rise, tilt = Fraction(chance.randint(0, 10**50), 10**40 + 3), Fraction(chance.randint(-1, 1), 10**60)
        motion.append((name, as_part(rise), as_part(tilt)))
    return motion


def let_motions(chance, yard):
    """Motions that are told at edges, and sums of them."""
    told = []
    answer = stands(yard)
    if answer[0] == "falls":
        told.append(answer[1])
    for asked in all_asked(yard, chance):
        for way in ("most", "least"):
            answer = edge(yard, asked, way)
            if answer[0] != "any":
                told.append(answer[-2])
    for first in list(told):
        second = chance.choice(told)
        told.append([
            (name, as_part(worth(rise) + 2 * worth(other[1])), as_part(worth(tilt) + 2 * worth(other[2])))
            for (name, rise, tilt), other in zip(first, second)])
    return told


class HandmadeTest(unittest.TestCase):
    def test_a_board_on_a_trestle(self):
        yard = yard_of(("trestle", "t", 1, 0, 4), ("board", "b", 2, 0, 6, 10), ("sack", "s", "b", 6, 3))
        for rise, tilt, answer in [
                ((0, 1), (0, 1), (0, 1)), ((1, 1), (0, 1), (13, 1)), ((1, 2), (0, 1), (13, 2)), ((-1, 9), (0, 1), None),
                ((0, 1), (1, 1), (48, 1)), ((0, 1), (-1, 1), None), ((4, 1), (-1, 1), (4, 1)), ((3, 1), (-1, 1), None),
                ((-1, 1), (1, 1), None), ((1, 3), (-1, 12), (1, 3)), ((1, 3), (-1, 11), None)]:
            self.assertEqual(lifts(yard, [("b", rise, tilt)]), answer, (rise, tilt))

    def test_overhang(self):
        yard = yard_of(("trestle", "t", 1, 0, 2), ("board", "b", 2, 0, 6, 10))
        self.assertEqual(lifts(yard, [("b", (2, 1), (-1, 1))]), (-10, 1))

    def test_below_a_trestle_a_board_may_fall_alone(self):
        yard = yard_of(("trestle", "t", 3, 0, 4), ("board", "b", 2, 0, 4, 10))
        self.assertEqual(lifts(yard, [("b", (-1, 1), (0, 1))]), (-10, 1))
        self.assertIsNone(lifts(yard, [("b", (1, 1), (0, 1))]))

    def test_a_cord_is_not_stretched(self):
        yard = yard_of(
            ("board", "a", 1, 0, 8, 10), ("board", "b", 3, 0, 8, 1), ("cord", "c", "b", "a", 4),
            ("cord", "d", "", "b", 2))
        still, up, down = (0, 1), (1, 1), (-1, 1)
        for first, second, answer in [
                (still, still, (0, 1)), (up, still, (10, 1)), (up, up, (11, 1)), (still, up, None), (down, still, None),
                (down, down, None), (still, down, None), (up, down, None)]:
            self.assertEqual(lifts(yard, [("a", first, still), ("b", second, still)]), answer)

    def test_a_board_goes_through_no_other(self):
        yard = yard_of(("board", "a", 1, 0, 8, 10), ("board", "b", 2, 8, 12, 1))
        self.assertEqual(lifts(yard, [("a", (0, 1), (0, 1)), ("b", (0, 1), (0, 1))]), (0, 1))
        self.assertEqual(lifts(yard, [("a", (-5, 1), (0, 1)), ("b", (-5, 1), (0, 1))]), (-55, 1))
        self.assertIsNone(lifts(yard, [("a", (-4, 1), (0, 1)), ("b", (-5, 1), (0, 1))]))
        # They touch at 8 alone: there a tilt about that place changes nothing.
        self.assertEqual(lifts(yard, [("a", (0, 1), (0, 1)), ("b", (8, 1), (-1, 1))]), (-2, 1))
        self.assertEqual(lifts(yard, [("a", (0, 1), (0, 1)), ("b", (-8, 1), (1, 1))]), (2, 1))

    def test_an_empty_yard(self):
        self.assertEqual(lifts(Yard(), []), (0, 1))
        self.assertEqual(lifts(yard_of(("trestle", "t", 1, 0, 0)), []), (0, 1))
        self.assertIsNone(lifts(yard_of(("trestle", "t", 1, 0, 0)), [("t", (0, 1), (0, 1))]))

    def test_very_long_parts(self):
        yard = yard_of(("trestle", "t", 1, 0, 4), ("board", "b", 2, 0, 7, 10), ("sack", "s", "b", 6, 3))
        rise, tilt = Fraction(10**1400 + 1, 3**3000), Fraction(-10**1399, 7**1700)
        motion = [("b", as_part(rise), as_part(tilt))]
        self.assertEqual(lifts(yard, motion) is None, rise + 4 * tilt < 0)
        motion = [("b", as_part(rise), as_part(-tilt))]
        self.assertEqual(lifts(yard, motion), as_part(13 * rise - tilt * (35 + 18)))


class ManyStacksTest(unittest.TestCase):
    def check(self, yard, motion):
        before = lists(yard), list(motion)
        answer = as_part(own_lifts(motion, own_weights(yard))) if own_let(yard, motion) else None
        self.assertEqual(lifts(yard, motion), answer)
        self.assertEqual((lists(yard), motion), before)
        return answer

    def test_let_or_not(self):
        told = set()
        for seed in range(400):
            chance = random.Random(seed)
            yard = any_stack(chance)
            for turn in range(5):
                told.add(self.check(yard, any_motion(chance, yard)) is None)
        self.assertEqual(told, {True, False})

    def test_told_at_edges(self):
        signs = set()
        for seed in range(80):
            chance = random.Random(seed)
            yard = any_stack(chance)
            for motion in let_motions(chance, yard):
                answer = self.check(yard, motion)
                signs.add(None if answer is None else (answer[0] > 0) - (answer[0] < 0))
        self.assertEqual(signs, {None, -1, 0, 1})

    def test_rows_left_out_twice_exchanged_or_of_another_name(self):
        for seed in range(100):
            chance = random.Random(seed)
            yard = any_stack(chance)
            for motion in [[(row[0], (0, 1), (0, 1)) for row in yard.boards()], any_motion(chance, yard)]:
                wrong = [motion + [("none", (0, 1), (0, 1))], [("", (0, 1), (0, 1))] + motion]
                for at, row in enumerate(motion):
                    wrong += [motion[:at] + motion[at + 1:], motion[:at] + [row] + motion[at:], motion + [row]]
                    for thing in ["none", "", *[row[0] for row in yard.trestles() + yard.sacks() + yard.cords()]]:
                        wrong.append(motion[:at] + [(thing, *row[1:])] + motion[at + 1:])
                    for other in range(at):
                        changed = list(motion)
                        changed[at], changed[other] = motion[other], motion[at]
                        wrong.append(changed)
                for changed in wrong:
                    self.assertIsNone(lifts(yard, changed))


if __name__ == "__main__":
    unittest.main()
