"""Parts ([0.3])."""

import random
import unittest
from fractions import Fraction

from dunnage.parts import less, minus, part, plus, times


def as_row(fraction):
    return fraction.numerator, fraction.denominator


def numbers():
    """Numbers of 1 to 180 figures on both sides of nought, many with measures in common."""
    chance = random.Random(3)
    found = [0, 1, 2, 6, 10**179, 10**180 - 1, 2**590, 3**370, 6**220]
    for figures in (1, 2, 5, 18, 19, 40, 90, 179, 180):
        found.append(chance.randrange(10**(figures - 1), 10**figures))
        found.append(chance.randrange(1, 10**(figures // 2 + 1)) * 10**(figures // 2))
    return found + [-number for number in found if number]


class PartTest(unittest.TestCase):
    def told(self, answer, fraction):
        self.assertIs(type(answer), tuple)
        self.assertEqual(answer, as_row(fraction))
        self.assertGreater(answer[1], 0)

    def test_the_edges_that_are_named(self):
        for top, bottom, answer in [
            (0, 1, (0, 1)), (0, 9, (0, 1)), (0, -9, (0, 1)), (4, 2, (2, 1)), (-4, 2, (-2, 1)), (4, -2, (-2, 1)),
            (-4, -2, (2, 1)), (6, 4, (3, 2)), (6, -4, (-3, 2)), (-6, -4, (3, 2)), (1, 1, (1, 1)), (1, -1, (-1, 1)),
            (3, 7, (3, 7)), (7, 3, (7, 3)), (10**180, 10**180, (1, 1)), (1, -10**180, (-1, 10**180)),
        ]:
            with self.subTest(top=top, bottom=bottom):
                self.assertEqual(part(top, bottom), answer)

    def test_parts_of_long_numbers(self):
        for top in numbers():
            for bottom in numbers():
                if bottom:
                    self.told(part(top, bottom), Fraction(top, bottom))

    def pairs(self):
        chance = random.Random(5)
        found = numbers()
        for turn in range(1500):
            tops = chance.choices(found, k=2)
            bottoms = chance.choices([number for number in found if number], k=2)
            if turn % 3 == 0:
                bottoms[1] = bottoms[0]
            yield Fraction(tops[0], bottoms[0]), Fraction(tops[1], bottoms[1])

    def test_sums_differences_and_products(self):
        for a, b in self.pairs():
            self.told(plus(as_row(a), as_row(b)), a + b)
            self.told(minus(as_row(a), as_row(b)), a - b)
            self.told(minus(as_row(b), as_row(a)), b - a)
            self.told(times(as_row(a), as_row(b)), a * b)

    def test_what_comes_to_nought(self):
        for a, b in self.pairs():
            self.assertEqual(minus(as_row(a), as_row(a)), (0, 1))
            self.assertEqual(plus(as_row(b), as_row(-b)), (0, 1))
            self.assertEqual(times((0, 1), as_row(b)), (0, 1))

    def test_less_both_ways_round(self):
        for a, b in self.pairs():
            self.assertIs(less(as_row(a), as_row(b)), a < b)
            self.assertIs(less(as_row(b), as_row(a)), b < a)
            self.assertIs(less(as_row(a), as_row(a)), False)

    def test_less_of_near_ones(self):
        great = 10**180
        self.assertIs(less((great - 1, great), (1, 1)), True)
        self.assertIs(less((1, 1), (great - 1, great)), False)
        self.assertIs(less((-1, 1), (1 - great, great)), True)
        self.assertIs(less((great, great + 1), (great + 1, great + 2)), True)
        self.assertIs(less((great + 1, great + 2), (great, great + 1)), False)

    def test_steps_do_not_hang_on_how_great_the_numbers_are(self):
        # Two neighbours of this row take the most steps of all numbers of their length.
        low, high = 1, 1
        while high < 10**1499:
            low, high = high, low + high
        self.assertEqual(part(7 * high, -7 * low), (-high, low))
        self.assertEqual(part(10**1499, 3), (10**1499, 3))
        self.assertEqual(part(3, 10**1499), (3, 10**1499))

    def test_what_is_handed_in_stays(self):
        a, b = (3, 4), (-5, 6)
        for act in (plus, minus, times, less):
            act(a, b)
        self.assertEqual((a, b), ((3, 4), (-5, 6)))


if __name__ == "__main__":
    unittest.main()
