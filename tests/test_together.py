"""What belongs together: edges, standing, and the same stack in other numbers ([9], [10], [15])."""

import random
import unittest
from fractions import Fraction
from math import ceil, floor

from dunnage.seek import edge, stands
from tests.helpers import all_asked, any_stack, stack_deeds, worth, yard_of


def does_stand(yard):
    return stands(yard)[0] == "stands"


def told(yard, asked, way):
    """The amount at an edge, or `never`, or `any`."""
    answer = edge(yard, asked, way)
    return worth(answer[1]) if answer[0] == "edge" else answer[0]


def with_deed(yard, *deed):
    twin = yard.twin()
    twin.do(deed)
    return twin


class EdgesAndStandingTest(unittest.TestCase):
    def each(self, seeds, **most):
        for seed in seeds:
            chance = random.Random(seed)
            yard = any_stack(chance, **most)
            for asked in all_asked(yard, chance):
                yield yard, asked, told(yard, asked, "least"), told(yard, asked, "most")

    def test_none_can_be_both_ways_or_neither(self):
        for yard, asked, least, most in self.each(range(150)):
            self.assertEqual(least == "never", most == "never")
            self.assertNotEqual(least, "any")

    def test_the_least_is_no_more_than_the_most(self):
        equal = 0
        for yard, asked, least, most in self.each(range(150)):
            if least != "never" and most != "any":
                self.assertLessEqual(least, most)
                equal += least == most
            if least != "never" and asked[0] != "move":
                self.assertGreaterEqual(least, 0)
        self.assertGreater(equal, 10)

    def test_just_where_it_stands(self):
        seen = set()
        for yard, asked, least, most in self.each(range(200)):
            if asked[0] == "weight":
                can = least == 0
            elif asked[0] == "move":
                place = [row[2] for row in yard.sacks() if row[0] == asked[1]][0]
                can = least != "never" and least <= place <= most
            else:
                can = least != "never"
            self.assertIs(can, does_stand(yard), asked)
            seen.add((asked[0], can))
        self.assertEqual(len(seen), 8)

    def test_a_moved_sack_stays_on_its_board(self):
        for yard, asked, least, most in self.each(range(150)):
            if asked[0] == "move" and least != "never":
                board = [row[1] for row in yard.sacks() if row[0] == asked[1]][0]
                left, right = [row[2:4] for row in yard.boards() if row[0] == board][0]
                self.assertLessEqual(left, least)
                self.assertLessEqual(most, right)

    def test_a_whole_weight_just_within_and_just_beyond(self):
        count = 0
        for yard, asked, least, most in self.each(range(250), weights=(1, 5, 30, 1000)):
            if asked[0] != "weight" or least == "never":
                continue

            def stands_with(weight):
                twin = yard if weight == 0 else with_deed(yard, "sack", "extra", asked[1], asked[2], weight)
                return does_stand(twin)

            if most == "any":
                self.assertTrue(stands_with(10**9))
            else:
                self.assertFalse(stands_with(floor(most) + 1))
                if floor(most) >= least:
                    self.assertTrue(stands_with(floor(most)))
            if least > 0:
                count += 1
                self.assertFalse(stands_with(ceil(least) - 1))
                if most == "any" or ceil(least) <= most:
                    self.assertTrue(stands_with(ceil(least)))
        self.assertGreater(count, 10)

    def test_a_whole_place_just_within_and_just_beyond(self):
        count = 0
        for yard, asked, least, most in self.each(range(250)):
            if asked[0] != "move" or least == "never":
                continue
            board = [row[1] for row in yard.sacks() if row[0] == asked[1]][0]
            left, right = [row[2:4] for row in yard.boards() if row[0] == board][0]
            for place, can in [(ceil(least) - 1, False), (ceil(least), ceil(least) <= most),
                               (floor(most), least <= floor(most)), (floor(most) + 1, False)]:
                if left <= place <= right:
                    count += not can
                    self.assertIs(does_stand(with_deed(yard, "move", asked[1], board, place)), can)
        self.assertGreater(count, 10)


def mirrored(deed):
    if deed[0] in ("trestle", "board"):
        kind, name, course, left, right, *weight = deed
        return (kind, name, course, -right, -left, *weight)
    if deed[0] == "sack":
        kind, name, board, place, weight = deed
        return (kind, name, board, -place, weight)
    kind, name, upper, lower, place = deed
    return (kind, name, upper, lower, -place)


def heavier(deed, by):
    return (*deed[:-1], deed[-1] * by) if deed[0] in ("board", "sack") else deed


def turned(amount):
    return amount if isinstance(amount, str) else -amount


def taken(amount, by):
    return amount if isinstance(amount, str) else amount * by


class OtherNumbersTest(unittest.TestCase):
    def each(self, seeds):
        for seed in seeds:
            chance = random.Random(seed)
            deeds = stack_deeds(chance)
            yield chance, deeds, yard_of(*deeds)

    def test_mirrored(self):
        for chance, deeds, yard in self.each(range(100)):
            other = yard_of(*[mirrored(deed) for deed in deeds])
            self.assertEqual(does_stand(other), does_stand(yard))
            for asked in all_asked(yard, chance):
                if asked[0] == "move":
                    self.assertEqual(told(other, asked, "least"), turned(told(yard, asked, "most")))
                    self.assertEqual(told(other, asked, "most"), turned(told(yard, asked, "least")))
                    continue
                same = (*asked[:2], -asked[2]) if asked[0] == "weight" else asked
                for way in ("least", "most"):
                    self.assertEqual(told(other, same, way), told(yard, asked, way))

    def test_all_weights_so_many_times(self):
        for chance, deeds, yard in self.each(range(100)):
            by = chance.choice([2, 7, 1000, 10**7])
            other = yard_of(*[heavier(deed, by) for deed in deeds])
            self.assertEqual(does_stand(other), does_stand(yard))
            for asked in all_asked(yard, chance):
                for way in ("least", "most"):
                    told_there = told(yard, asked, way)
                    self.assertEqual(told(other, asked, way), taken(told_there, 1 if asked[0] == "move" else by))

    def test_a_board_far_off_on_a_trestle_of_its_own(self):
        count = 0
        for chance, deeds, yard in self.each(range(100)):
            place = chance.choice([-1, 1]) * 500000 + 5
            near = [row for row in yard.boards() + yard.trestles() if row[2] <= place + 9 and place <= row[3]]
            if near or len(yard.trestles()) == 6:
                continue
            count += 1
            far = [("trestle", "faraway", 1, place, place + 2), ("board", "farboard", 2, place, place + 2, 10**9)]
            for more in (deeds + far, far + deeds):
                other = yard_of(*more)
                self.assertEqual(does_stand(other), does_stand(yard))
                for asked in all_asked(yard, random.Random(1)):
                    for way in ("least", "most"):
                        self.assertEqual(told(other, asked, way), told(yard, asked, way))
        self.assertGreater(count, 50)

    def test_a_far_one_that_falls_brings_the_yard_down(self):
        for chance, deeds, yard in self.each(range(30)):
            other = yard_of(*deeds, ("board", "farboard", 9, 500000, 500009, 1))
            self.assertFalse(does_stand(other))
            for asked in all_asked(yard, chance):
                for way in ("least", "most"):
                    self.assertEqual(told(other, asked, way), "never")

    def test_shifted_as_a_whole(self):
        for chance, deeds, yard in self.each(range(60)):
            spots = [place for row in yard.boards() + yard.trestles() for place in row[2:4]]
            by = chance.choice([-10**6 - min(spots), 10**6 - max(spots), chance.randint(-9, 9)])
            if min(spots) + by < -10**6 or max(spots) + by > 10**6:
                continue
            shifted = []
            for deed in deeds:
                if deed[0] in ("trestle", "board"):
                    shifted.append((*deed[:3], deed[3] + by, deed[4] + by, *deed[5:]))
                else:
                    at = 3 if deed[0] == "sack" else 4
                    shifted.append((*deed[:at], deed[at] + by, *deed[at + 1:]))
            other = yard_of(*shifted)
            for asked in all_asked(yard, chance):
                same = (*asked[:2], asked[2] + by) if asked[0] == "weight" else asked
                for way in ("least", "most"):
                    amount = told(yard, asked, way)
                    if asked[0] == "move" and amount != "never":
                        amount = Fraction(amount) + by
                    self.assertEqual(told(other, same, way), amount)


if __name__ == "__main__":
    unittest.main()
