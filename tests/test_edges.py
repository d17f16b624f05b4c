"""The least and the most of what may be asked for, with what shows them ([10] to [14])."""

import random
import unittest
from fractions import Fraction
from unittest import mock

from dunnage.papers import bars, grows, holds, shows
from dunnage.seek import edge, stands
from dunnage.solve import Table
from tests.helpers import (
    END, all_asked, any_stack, as_part, asked_ends, lists, own_grows, own_holds, own_judge, stack_deeds, told_motion,
    told_pushes, weights_with, worth, yard_of,
)

FORMS = ("weight", "move", "trestle", "cord")


def check_pushes(test, yard, asked, amount, pushes):
    """The pushes hold the yard's weights with just that amount."""
    told_pushes(test, yard, pushes)
    rows = weights_with(yard, asked, amount)
    test.assertTrue(own_holds(yard, pushes, rows))
    test.assertTrue(holds(yard, pushes, [(board, as_part(place), as_part(weight)) for board, place, weight in rows]))
    if asked[0] in ("trestle", "cord"):
        test.assertEqual(sum(worth(pushes[at][4]) for at in asked_ends(yard, asked)), amount)


def check_edge(test, yard, asked, way):
    """What is told, which is right by sums of the test's own and by the papers: the amount, `never` or `any`."""
    before = lists(yard)
    answer = edge(yard, asked, way)
    test.assertEqual(lists(yard), before)
    test.assertIs(type(answer), tuple)
    if answer[0] == "never":
        motion, stop = answer[1:]
        told_motion(test, yard, motion)
        test.assertTrue(own_judge(yard, asked, "none", motion, stop))
        test.assertIs(bars(yard, asked, motion, stop), True)
        return "never"
    amount = worth(answer[1])
    check_pushes(test, yard, asked, amount, answer[2])
    if answer[0] == "any":
        test.assertEqual((way, len(answer)), ("most", 4))
        told_pushes(test, yard, answer[3])
        test.assertTrue(own_grows(yard, asked, answer[3]))
        test.assertIs(grows(yard, asked, answer[3]), True)
        return "any"
    test.assertEqual((answer[0], len(answer)), ("edge", 5))
    told_motion(test, yard, answer[3])
    test.assertEqual(own_judge(yard, asked, way, *answer[3:]), answer[1])
    test.assertEqual(shows(yard, asked, way, *answer[3:]), answer[1])
    return amount


class HandmadeTest(unittest.TestCase):
    def check(self, yard, asked, least, most):
        self.assertEqual(check_edge(self, yard, asked, "least"), least, asked)
        self.assertEqual(check_edge(self, yard, asked, "most"), most, asked)

    def test_weight(self):
        yard = yard_of(("trestle", "t", 1, 2, 8), ("board", "b", 2, 0, 11, 10))
        # The middle is at 11/2: 5/2 left of 8, 7/2 right of 2.
        for place, most in [(0, Fraction(35, 2)), (1, 35), (2, "any"), (5, "any"), (8, "any"), (9, 25),
                            (10, Fraction(25, 2)), (11, Fraction(25, 3))]:
            self.check(yard, ("weight", "b", place), 0, most)

    def test_a_least_weight_above_nought(self):
        yard = yard_of(("trestle", "t", 1, 2, 8), ("board", "b", 2, 0, 18, 10))
        for place, least, most in [
                (0, Fraction(5, 4), 35), (1, Fraction(10, 7), 70), (2, Fraction(10, 6), "any"), (7, 10, "any"),
                (8, "never", "never"), (9, "never", "never"), (18, "never", "never")]:
            self.check(yard, ("weight", "b", place), least, most)

    def test_move(self):
        yard = yard_of(("trestle", "t", 1, 0, 4), ("board", "b", 2, -2, 12, 6), ("sack", "s", "b", -1, 4))
        # The board turns by 6 about the trestle's right; the sack stands it up to 3/2 short of it.
        self.check(yard, ("move", "s"), -2, Fraction(5, 2))
        yard.do(("move", "s", "b", 12))
        self.check(yard, ("move", "s"), -2, Fraction(5, 2))
        # Now the board turns by 30 about the trestle's left, the other sack by 26 against it.
        yard.do(("sack", "u", "b", -2, 13))
        self.check(yard, ("move", "s"), -1, 12)
        yard.do(("lift", "u"))
        yard.do(("sack", "u", "b", 12, 7))
        self.check(yard, ("move", "s"), "never", "never")

    def test_trestles(self):
        yard = yard_of(
            ("trestle", "l", 1, 0, 0), ("trestle", "m", 1, 4, 4), ("trestle", "r", 1, 8, 8),
            ("board", "b", 2, 0, 8, 10))
        self.check(yard, ("trestle", "l"), 0, 5)
        self.check(yard, ("trestle", "m"), 0, 10)
        self.check(yard, ("trestle", "r"), 0, 5)
        yard.do(("trestle", "far", 1, 90, 95))
        self.check(yard, ("trestle", "far"), 0, 0)

    def test_cords(self):
        yard = yard_of(("trestle", "l", 1, 0, 8), ("board", "b", 2, 0, 8, 10), ("cord", "c", "", "b", 8))
        self.check(yard, ("cord", "c"), 0, 5)
        self.check(yard, ("trestle", "l"), 5, 10)
        yard.do(("trestle", "u", 3, 8, 8))
        self.check(yard, ("cord", "c"), 0, "any")
        self.check(yard, ("trestle", "u"), 0, "any")
        self.check(yard, ("trestle", "l"), 5, "any")

    def test_a_trestle_between_two_boards_bears_both(self):
        yard = yard_of(
            ("trestle", "t", 2, 0, 8), ("board", "a", 1, 0, 8, 3), ("board", "b", 3, 0, 8, 4),
            ("cord", "c", "", "a", 0), ("cord", "d", "", "a", 8))
        self.check(yard, ("trestle", "t"), 4, "any")
        self.check(yard, ("cord", "c"), Fraction(3, 2), "any")

    def test_a_yard_that_falls(self):
        yard = yard_of(
            ("trestle", "t", 1, 0, 2), ("board", "b", 2, 0, 8, 10), ("sack", "s", "b", 8, 1), ("cord", "c", "", "b", 0))
        self.assertEqual(stands(yard)[0], "falls")
        for asked in [("trestle", "t"), ("cord", "c"), ("move", "s"), ("weight", "b", 2)]:
            self.check(yard, asked, "never", "never")
        self.check(yard, ("weight", "b", 0), 13, "any")

    def test_trestles_alone(self):
        yard = yard_of(("trestle", "t", 1, 0, 2))
        for way in ("most", "least"):
            self.assertEqual(edge(yard, ("trestle", "t"), way), ("edge", (0, 1), [], [], (0, 1)))

    def test_with_eight_sacks(self):
        sacks = [("sack", name, "b", at, 1 + at) for at, name in enumerate("cdefghij")]
        yard = yard_of(("trestle", "t", 1, 0, 8), ("board", "b", 2, 0, 20, 90), *sacks)
        self.assertEqual(len(yard.sacks()), 8)
        # The board turns by 180 about 8, the sacks by 8 + 14 + 18 + 20 + 20 + 18 + 14 + 8 = 120 against it.
        self.check(yard, ("weight", "b", 0), Fraction(60, 8), "any")
        self.check(yard, ("weight", "b", 9), "never", "never")
        self.check(yard, ("move", "j"), "never", "never")
        yard.do(("away", "t"))
        yard.do(("trestle", "t", 1, 0, 9))
        # Now the board turns by 90, the sacks by 156.
        self.check(yard, ("weight", "b", 20), 0, Fraction(66, 11))
        self.check(yard, ("move", "j"), 0, Fraction(61, 4))
        self.check(yard, ("move", "c"), 0, 20)

    def test_things_that_are_named_like_forms(self):
        yard = yard_of(
            ("trestle", "move", 1, 0, 10), ("board", "cord", 2, 0, 10, 10), ("trestle", "weight", 3, 5, 5),
            ("sack", "trestle", "cord", 5, 4), ("cord", "most", "", "cord", 5))
        self.check(yard, ("trestle", "move"), 0, "any")
        self.check(yard, ("trestle", "weight"), 0, "any")
        self.check(yard, ("cord", "most"), 0, "any")
        self.check(yard, ("move", "trestle"), 0, 10)
        self.check(yard, ("weight", "cord", 10), 0, "any")

    def test_at_the_farthest_and_the_heaviest(self):
        yard = yard_of(
            ("trestle", "t", 1, -END, END - 1), ("board", "b", 2, -END, END, 10**9), ("sack", "s", "b", 0, 10**9))
        self.check(yard, ("weight", "b", END), 0, 2 * 10**9 * (END - 1))
        self.check(yard, ("move", "s"), -END, END)
        self.check(yard, ("trestle", "t"), 2 * 10**9, 2 * 10**9)


class ManyStacksTest(unittest.TestCase):
    def test_each_asked_for_both_ways(self):
        seen = set()
        for seed in range(160):
            chance = random.Random(seed)
            yard = any_stack(chance)
            for asked in all_asked(yard, chance):
                for way in ("most", "least"):
                    told = check_edge(self, yard, asked, way)
                    seen.add((asked[0], way, told if told in ("never", "any") else "edge"))
        wanted = {(form, way, told) for form in FORMS for way in ("most", "least") for told in ("never", "edge")}
        self.assertEqual(seen, wanted | {(form, "most", "any") for form in FORMS if form != "move"})

    def test_full_yards(self):
        for seed in range(25):
            chance = random.Random(seed)
            yard = any_stack(chance, boards=6, trestles=6, sacks=8, cords=4, weights=(1, 10**9, 999999937, 12345))
            for asked in all_asked(yard, chance):
                for way in ("most", "least"):
                    check_edge(self, yard, asked, way)

    def test_asked_again_with_told_lists_emptied(self):
        for seed in range(40):
            chance = random.Random(seed)
            yard = any_stack(chance)
            for asked in all_asked(yard, chance):
                for way in ("most", "least"):
                    first = edge(yard, asked, way)
                    kept = tuple(list(thing) if type(thing) is list else thing for thing in first)
                    for thing in first:
                        if type(thing) is list:
                            thing.clear()
                    self.assertEqual(edge(yard, asked, way), kept)
                    self.assertEqual(edge(yard.twin(), asked, way), kept)

    def test_steps_do_not_hang_on_how_great_the_weights_are(self):
        def turns(yard):
            with mock.patch.object(Table, "turn", autospec=True, side_effect=Table.turn) as turn:
                for asked in all_asked(yard, random.Random(1)):
                    # A sack's way along its board is no weight, and would not grow with the others.
                    if asked[0] != "move":
                        edge(yard, asked, "most")
                        edge(yard, asked, "least")
            return turn.call_count

        for seed in range(20):
            deeds = stack_deeds(random.Random(seed))
            heavy = [
                (*deed[:-1], deed[-1] * 10**7) if deed[0] in ("board", "sack") else deed for deed in deeds]
            self.assertEqual(turns(yard_of(*heavy)), turns(yard_of(*deeds)))


if __name__ == "__main__":
    unittest.main()
