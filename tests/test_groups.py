"""Boards that hang together ([15])."""

import itertools
import random
import unittest

from dunnage.apart import groups
from dunnage.yard import Yard
from tests.helpers import Model, any_deed, any_stack, follow, lists, made_of, own_groups, refusal, yard_of

# Two stacks of two boards each; the second one stands higher, and over the first one.
STACKS = [
    ("trestle", "t", 1, 0, 9), ("board", "d", 2, 0, 9, 1), ("board", "b", 3, 0, 9, 1),
    ("trestle", "u", 5, 5, 20), ("board", "c", 6, 5, 20, 1), ("board", "a", 7, 5, 20, 1),
]


class GroupsTest(unittest.TestCase):
    def check(self, yard, told):
        self.assertEqual(groups(yard), told)
        self.assertEqual(own_groups(yard), told)

    def test_none(self):
        self.check(Yard(), [])
        self.check(yard_of(("trestle", "t", 1, 0, 9), ("trestle", "u", 2, 0, 9)), [])

    def test_one_board(self):
        self.check(yard_of(("board", "b", 1, 0, 9, 1), ("sack", "s", "b", 1, 1), ("cord", "c", "", "b", 1)), [["b"]])

    def test_two_stacks(self):
        self.check(yard_of(*STACKS), [["a", "c"], ["b", "d"]])

    def test_a_cord_between_any_of_their_boards(self):
        for upper, lower in itertools.product("ca", "db"):
            yard = yard_of(*STACKS)
            yard.do(("cord", "k", upper, lower, 7))
            self.check(yard, [["a", "b", "c", "d"]])
            yard.do(("cut", "k"))
            self.check(yard, [["a", "c"], ["b", "d"]])

    def test_a_cord_within_one_of_them(self):
        self.check(yard_of(*STACKS, ("cord", "k", "a", "c", 7)), [["a", "c"], ["b", "d"]])

    def test_cords_from_the_beam_tie_none_together(self):
        cords = [("cord", "k" + name, "", name, 7) for name in "abcd"]
        self.check(yard_of(*STACKS, *cords), [["a", "c"], ["b", "d"]])

    def test_a_cord_alone(self):
        boards = [("board", "b", 9, 0, 9, 1), ("board", "a", 1, 9, 12, 1)]
        self.check(yard_of(*boards), [["a"], ["b"]])
        self.check(yard_of(*boards, ("cord", "k", "b", "a", 9)), [["a", "b"]])

    def test_touching_at_one_place_or_along_a_stretch(self):
        for left, told in [(10, [["a"], ["b"]]), (9, [["a", "b"]]), (8, [["a", "b"]]), (-5, [["a", "b"]]),
                           (-9, [["a", "b"]]), (-10, [["a"], ["b"]])]:
            for low, high in (("a", "b"), ("b", "a")):
                self.check(yard_of(("board", low, 1, 0, 9, 1), ("board", high, 2, left, left + 9, 1)), told)

    def test_one_within_the_other(self):
        self.check(yard_of(("board", "a", 4, 0, 9, 1), ("board", "b", 5, 3, 4, 1)), [["a", "b"]])
        self.check(yard_of(("board", "a", 5, 0, 9, 1), ("board", "b", 4, 3, 4, 1)), [["a", "b"]])

    def test_boards_of_one_course_and_of_far_courses_do_not_touch(self):
        self.check(yard_of(("board", "a", 1, 0, 9, 1), ("board", "b", 1, 9, 12, 1)), [["a"], ["b"]])
        self.check(yard_of(("board", "a", 1, 0, 9, 1), ("board", "b", 3, 0, 9, 1)), [["a"], ["b"]])

    def test_nothing_hangs_together_by_a_trestle(self):
        yard = yard_of(("trestle", "t", 2, 0, 9), ("board", "a", 1, 0, 9, 1), ("board", "b", 3, 0, 4, 1),
                       ("board", "c", 3, 5, 9, 1))
        self.check(yard, [["a"], ["b"], ["c"]])

    def test_from_one_to_the_next(self):
        low = [("board", name, 1, 10 * at, 10 * at + 8, 1) for at, name in enumerate("fed")]
        self.check(yard_of(*low), [["d"], ["e"], ["f"]])
        self.check(yard_of(*low, ("board", "a", 2, 8, 10, 1)), [["a", "e", "f"], ["d"]])
        self.check(yard_of(*low, ("board", "z", 2, 18, 20, 1)), [["d", "e", "z"], ["f"]])
        self.check(yard_of(*low, ("board", "a", 2, 8, 10, 1), ("board", "z", 2, 18, 20, 1)),
                   [["a", "d", "e", "f", "z"]])

    def test_a_chain_through_cords_and_touch(self):
        yard = yard_of(
            ("board", "f", 1, 0, 9, 1), ("board", "a", 3, 9, 20, 1), ("board", "e", 4, 20, 30, 1),
            ("board", "b", 6, 30, 40, 1), ("board", "d", 5, 40, 50, 1), ("board", "c", 9, 60, 70, 1),
            ("cord", "k", "a", "f", 9), ("cord", "l", "b", "e", 30))
        self.check(yard, [["a", "b", "d", "e", "f"], ["c"]])

    def test_names_rise_as_texts_do(self):
        names = ["b", "ab", "abc", "aa", "z", "zz"]
        yard = yard_of(*[("board", name, 1, 10 * at, 10 * at + 5, 1) for at, name in enumerate(names)])
        self.check(yard, [["aa"], ["ab"], ["abc"], ["b"], ["z"], ["zz"]])

    def test_further_deeds(self):
        yard = yard_of(*STACKS)
        for deed, told in [
                (("along", "b", 10), [["a", "c"], ["b"], ["d"]]), (("along", "b", -1), [["a", "c"], ["b", "d"]]),
                (("cord", "k", "a", "d", 6), [["a", "b", "c", "d"]]),
                (("board", "e", 3, 0, 9, 1), [["a", "b", "c", "d", "e"]]), (("away", "b"), [["a", "c", "d", "e"]]),
                (("cut", "k"), [["a", "c"], ["d", "e"]]), (("away", "d"), [["a", "c"], ["e"]]),
                (("along", "c", 16), [["a"], ["c"], ["e"]])]:
            yard.do(deed)
            self.check(yard, told)

    def test_told_lists_that_are_changed(self):
        yard = yard_of(*STACKS)
        told = groups(yard)
        before = lists(yard)
        told[0].append("z")
        told[1].clear()
        told.append(["y"])
        self.assertEqual(groups(yard), [["a", "c"], ["b", "d"]])
        groups(yard).clear()
        self.assertEqual(groups(yard), [["a", "c"], ["b", "d"]])
        self.assertEqual(lists(yard), before)
        self.assertIs(type(groups(yard)), list)
        self.assertIs(type(groups(yard)[0]), list)

    def test_held_over_further_deeds(self):
        yard = yard_of(*STACKS)
        held = groups(yard)
        yard.do(("away", "a"))
        self.assertEqual(held, [["a", "c"], ["b", "d"]])

    def test_many_yards(self):
        seen = set()
        for seed in range(300):
            chance = random.Random(seed)
            yard = any_stack(chance, boards=6, cords=4)
            before = lists(yard)
            told = groups(yard)
            self.assertEqual(told, own_groups(yard))
            self.assertEqual(lists(yard), before)
            self.assertEqual(groups(made_of(before)), told)
            seen.add(tuple(len(group) for group in told))
        self.assertGreater(len(seen), 12)

    def test_between_deeds(self):
        for seed in range(20):
            chance = random.Random(seed)
            yard, model = Yard(), Model()
            for turn in range(100):
                follow(self, yard, model, any_deed(chance, model, "abcdefghijkl"))
                self.assertEqual(groups(yard), own_groups(yard))
                self.assertEqual(groups(yard.twin()), own_groups(yard))

    def test_in_whatever_order_things_came(self):
        chance = random.Random(3)
        boards = [deed for deed in STACKS if deed[0] == "board"]
        for order in itertools.permutations(boards):
            yard = yard_of(*order)
            self.assertIsNone(refusal(yard, ("cord", "k", "", chance.choice("abcd"), 7)))
            self.check(yard, [["a", "c"], ["b", "d"]])


if __name__ == "__main__":
    unittest.main()
