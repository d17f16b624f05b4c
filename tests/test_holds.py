"""Pushes that hold weights, judged ([7])."""

import random
import unittest
from fractions import Fraction

from dunnage.papers import holds
from dunnage.seek import stands
from dunnage.touch import ends, weights
from dunnage.yard import Yard
from tests.helpers import any_stack, as_part, lists, own_holds, own_load, worth, yard_of


def in_parts(rows):
    return [(board, as_part(place), as_part(weight)) for board, place, weight in rows]


def in_fractions(rows):
    return [(board, worth(place), worth(weight)) for board, place, weight in rows]


def any_pushes(chance, yard):
    """Pushes of all sizes, whole or in parts, some nought."""
    kind = chance.choice(["whole", "parts", "mixed", "great"])
    pushes = []
    for end in ends(yard):
        top, bottom = chance.choice([0, 1, 2, chance.randint(0, 99)]), chance.choice([1, 2, 3, 10, 97])
        if kind == "whole" or (kind == "mixed" and chance.random() < 0.5):
            bottom = 1
        if kind == "great":
            top, bottom = chance.randint(0, 10**60), chance.randint(1, 10**40)
        pushes.append((*end, as_part(Fraction(top, bottom))))
    return pushes


def held_by(chance, yard, pushes):
    """Weights that these pushes hold, reckoned from them: on each board in one row, in two, or in three."""
    rows = []
    for board, (force, turning) in own_load(yard, pushes).items():
        first = Fraction(chance.randint(-50, 50), chance.choice([1, 2, 7]))
        many = chance.choice([1, 2, 3])
        if many == 1 and force:
            rows.append((board, turning / force, force))
            continue
        if many == 3:
            place, weight = Fraction(chance.randint(-9, 9), 3), Fraction(chance.randint(-9, 9), 2)
            rows.append((board, place, weight))
            force, turning = force - weight, turning - place * weight
        # Two places one apart carry any force and any turning.
        second = turning - force * first
        rows += [(board, first, force - second), (board, first + 1, second)]
    chance.shuffle(rows)
    return in_parts(rows)


class HandmadeTest(unittest.TestCase):
    def setUp(self):
        self.yard = yard_of(("trestle", "s", 1, 0, 0), ("trestle", "t", 1, 8, 8), ("board", "b", 2, 0, 8, 10))

    def test_a_board_on_two_trestles(self):
        pushes = [("", "b", "s", 0, (5, 1)), ("", "b", "t", 8, (5, 1))]
        self.assertIs(holds(self.yard, pushes, weights(self.yard)), True)
        self.assertIs(holds(self.yard, pushes, [("b", (4, 1), (10, 1))]), True)
        self.assertIs(holds(self.yard, pushes, [("b", (0, 1), (5, 1)), ("b", (8, 1), (5, 1))]), True)
        self.assertIs(holds(self.yard, pushes, [("b", (4, 1), (9, 1))]), False)
        self.assertIs(holds(self.yard, pushes, [("b", (5, 1), (10, 1))]), False)
        self.assertIs(holds(self.yard, pushes, []), False)

    def test_the_force_is_right_and_the_turning_is_not(self):
        pushes = [("", "b", "s", 0, (4, 1)), ("", "b", "t", 8, (6, 1))]
        self.assertIs(holds(self.yard, pushes, weights(self.yard)), False)
        self.assertIs(holds(self.yard, pushes, [("b", (24, 5), (10, 1))]), True)

    def test_the_turning_is_right_and_the_force_is_not(self):
        pushes = [("", "b", "s", 0, (6, 1)), ("", "b", "t", 8, (5, 1))]
        self.assertIs(holds(self.yard, pushes, weights(self.yard)), False)

    def test_no_weights_are_held_by_no_pushes(self):
        pushes = [("", "b", "s", 0, (0, 1)), ("", "b", "t", 8, (0, 1))]
        self.assertIs(holds(self.yard, pushes, []), True)
        self.assertIs(holds(self.yard, pushes, [("b", (3, 7), (0, 1))]), True)
        self.assertIs(holds(self.yard, pushes, [("b", (3, 7), (2, 1)), ("b", (3, 7), (-2, 1))]), True)
        self.assertIs(holds(self.yard, pushes, [("b", (3, 7), (2, 1)), ("b", (4, 7), (-2, 1))]), False)

    def test_a_cord_pulls_the_lower_one_up_and_the_upper_one_down(self):
        yard = yard_of(
            ("board", "a", 1, 0, 8, 10), ("board", "b", 3, 0, 8, 1), ("cord", "c", "b", "a", 4),
            ("cord", "d", "", "b", 4))
        self.assertIs(holds(yard, [("c", "b", "a", 4, (10, 1)), ("d", "", "b", 4, (11, 1))], weights(yard)), True)
        self.assertIs(holds(yard, [("c", "b", "a", 4, (10, 1)), ("d", "", "b", 4, (9, 1))], weights(yard)), False)

    def test_a_trestle_above_pushes_down(self):
        yard = yard_of(("trestle", "t", 1, 4, 4), ("board", "b", 2, 0, 6, 1), ("trestle", "u", 3, 6, 6))
        pushes = [("", "b", "t", 4, (3, 2)), ("", "u", "b", 6, (1, 2))]
        self.assertIs(holds(yard, pushes, weights(yard)), True)

    def test_a_push_below_nought(self):
        pushes = [("", "b", "s", 0, (-5, 1)), ("", "b", "t", 8, (15, 1))]
        self.assertIs(holds(self.yard, pushes, [("b", (12, 1), (10, 1))]), False)
        lifted = [("", "b", "s", 0, (15, 1)), ("", "b", "t", 8, (-1, 10**40))]
        self.assertIs(holds(self.yard, lifted, [("b", (0, 1), (15, 1)), ("b", (8, 1), (-1, 10**40))]), False)

    def test_weights_below_nought(self):
        yard = yard_of(("trestle", "u", 3, 0, 8), ("board", "b", 2, 0, 8, 10))
        pushes = [("", "u", "b", 0, (5, 1)), ("", "u", "b", 8, (5, 1))]
        self.assertIs(holds(yard, pushes, [("b", (4, 1), (-10, 1))]), True)
        self.assertIs(holds(yard, pushes, [("b", (4, 1), (10, 1))]), False)

    def test_an_empty_yard(self):
        self.assertIs(holds(Yard(), [], []), True)
        self.assertIs(holds(Yard(), [("", "b", "s", 0, (0, 1))], []), False)
        self.assertIs(holds(self.yard, [], []), False)

    def test_very_long_parts(self):
        # 1,500 figures, and bottoms that have nothing in common.
        first, second = Fraction(10**1499 + 7, 3**3000), Fraction(10**1400 + 1, 2**4900)
        pushes = [("", "b", "s", 0, as_part(first)), ("", "b", "t", 8, as_part(second))]
        rows = [("b", (0, 1), as_part(first)), ("b", (8, 1), as_part(second))]
        self.assertIs(holds(self.yard, pushes, rows), True)
        rows[1] = ("b", (8, 1), as_part(second + Fraction(1, 2**4900)))
        self.assertIs(holds(self.yard, pushes, rows), False)


class ManyStacksTest(unittest.TestCase):
    def check(self, yard, pushes, rows, answer):
        before = lists(yard), list(pushes), list(rows)
        self.assertIs(holds(yard, pushes, rows), answer)
        self.assertEqual((lists(yard), pushes, rows), before)

    def each(self, seeds):
        for seed in seeds:
            chance = random.Random(seed)
            yard = any_stack(chance)
            pushes = any_pushes(chance, yard)
            yield chance, yard, pushes, held_by(chance, yard, pushes)

    def test_reckoned_from_the_pushes(self):
        for chance, yard, pushes, rows in self.each(range(200)):
            self.assertTrue(own_holds(yard, pushes, in_fractions(rows)))
            self.check(yard, pushes, rows, True)

    def test_one_push_changed(self):
        for chance, yard, pushes, rows in self.each(range(100)):
            for at in range(len(pushes)):
                by = Fraction(1, chance.choice([1, 2, 10**30]))
                changed = list(pushes)
                changed[at] = (*pushes[at][:4], as_part(worth(pushes[at][4]) + by))
                self.check(yard, changed, rows, False)

    def test_one_weight_or_place_changed(self):
        for chance, yard, pushes, rows in self.each(range(100)):
            for at, (board, place, weight) in enumerate(rows):
                by = Fraction(chance.choice([1, -1]), chance.choice([1, 2, 10**30]))
                changed = list(rows)
                changed[at] = (board, place, as_part(worth(weight) + by))
                self.check(yard, pushes, changed, False)
                changed[at] = (board, as_part(worth(place) + by), weight)
                self.check(yard, pushes, changed, weight == (0, 1))

    def test_one_weight_left_out_or_on_another_board(self):
        for chance, yard, pushes, rows in self.each(range(100)):
            names = [row[0] for row in yard.boards()]
            for at, (board, place, weight) in enumerate(rows):
                if weight[0]:
                    self.check(yard, pushes, rows[:at] + rows[at + 1:], False)
                    self.check(yard, pushes, rows + [rows[at]], False)
                    for other in names:
                        changed = rows[:at] + [(other, place, weight)] + rows[at + 1:]
                        self.check(yard, pushes, changed, other == board)

    def test_rows_of_pushes_left_out_twice_or_exchanged(self):
        for chance, yard, pushes, rows in self.each(range(100)):
            nought = [(*row[:4], (0, 1)) for row in pushes]
            for some, held in ((pushes, rows), (nought, [])):
                self.check(yard, some, held, True)
                for at in range(len(some)):
                    self.check(yard, some[:at] + some[at + 1:], held, False)
                    self.check(yard, some[:at] + [some[at]] + some[at:], held, False)
                    self.check(yard, some + [some[at]], held, False)
                    for other in range(at):
                        changed = list(some)
                        changed[at], changed[other] = some[other], some[at]
                        self.check(yard, changed, held, False)

    def test_one_thing_of_a_row_changed(self):
        for chance, yard, pushes, rows in self.each(range(60)):
            for at, (what, upper, lower, place, push) in enumerate(pushes):
                for other in [(what + "x", upper, lower, place), (what, "none", lower, place),
                              (what, lower, upper, place), (what, upper, "none", place),
                              (what, upper, lower, place + 1)]:
                    self.check(yard, pushes[:at] + [(*other, push)] + pushes[at + 1:], rows, False)

    def test_a_push_below_nought(self):
        for chance, yard, pushes, rows in self.each(range(100)):
            for at in range(len(pushes)):
                changed = list(pushes)
                changed[at] = (*pushes[at][:4], (-1, chance.choice([1, 10**50])))
                self.check(yard, changed, held_by(chance, yard, changed), False)

    def test_told_pushes_and_the_yards_weights(self):
        for seed in range(100):
            yard = any_stack(random.Random(seed))
            answer = stands(yard)
            if answer[0] == "stands":
                self.check(yard, answer[1], weights(yard), True)
                if answer[1]:
                    self.check(yard, answer[1][1:], weights(yard), False)


if __name__ == "__main__":
    unittest.main()
