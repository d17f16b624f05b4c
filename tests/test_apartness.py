"""Nothing handed in is kept, told lists are new ones, and twins go their own way ([0.2])."""

import random
import unittest

from dunnage.yard import Yard
from tests.helpers import Model, any_deed, follow, lists, yard_of

DEEDS = [
    ("trestle", "t", 1, 0, 9), ("board", "b", 2, 0, 9, 1), ("board", "d", 3, 0, 9, 1), ("sack", "s", "b", 1, 1),
    ("cord", "c", "d", "b", 1),
]


class TwinTest(unittest.TestCase):
    def test_a_twin_is_a_yard_with_the_same_things(self):
        yard = yard_of(*DEEDS)
        twin = yard.twin()
        self.assertIs(type(twin), Yard)
        self.assertIsNot(twin, yard)
        self.assertEqual(lists(twin), lists(yard))
        self.assertEqual(lists(Yard().twin()), ([], [], [], []))

    def test_each_deed_changes_its_own_yard_alone(self):
        for deed in [("trestle", "z", 9, 0, 9), ("board", "z", 9, 0, 9, 1), ("away", "t"), ("along", "t", 5),
                     ("sack", "z", "d", 1, 1), ("move", "s", "d", 5), ("lift", "s"), ("cord", "z", "", "d", 1),
                     ("cut", "c")]:
            yard = yard_of(*DEEDS)
            told = lists(yard)
            twin = yard.twin()
            twin.do(deed)
            self.assertEqual(lists(yard), told, deed)
            self.assertNotEqual(lists(twin), told, deed)
            later = yard.twin()
            yard.do(deed)
            self.assertEqual(lists(yard), lists(twin), deed)
            self.assertEqual(lists(later), told, deed)

    def test_shifted_sacks_of_a_twin(self):
        yard = yard_of(*DEEDS[:4])
        twin = yard.twin()
        twin.do(("along", "b", 5))
        self.assertEqual(yard.sacks(), [("s", "b", 1, 1)])
        self.assertEqual(twin.sacks(), [("s", "b", 6, 1)])

    def test_fresh_yards_have_nothing_to_do_with_one_another(self):
        first, second = Yard(), Yard()
        for deed in DEEDS:
            first.do(deed)
        self.assertEqual(lists(second), ([], [], [], []))
        self.assertEqual(lists(Yard()), ([], [], [], []))

    def test_deeds_by_turns(self):
        for seed in range(30):
            chance = random.Random(seed)
            pairs = [(Yard(), Model())]
            for deed in DEEDS:
                follow(self, *pairs[0], deed)
            pairs.append((pairs[0][0].twin(), pairs[0][1].copy()))
            pairs.append((pairs[1][0].twin(), pairs[1][1].copy()))
            pairs.append((Yard(), Model()))
            for turn in range(150):
                yard, model = chance.choice(pairs)
                follow(self, yard, model, any_deed(chance, model, "abcdefghijklmnopst"))
                for other, other_model in pairs:
                    self.assertEqual(lists(other), other_model.lists())


class ToldListsTest(unittest.TestCase):
    def test_emptied_or_lengthened_they_change_nothing(self):
        yard = yard_of(*DEEDS)
        told = lists(yard)
        for at in range(4):
            lists(yard)[at].clear()
            self.assertEqual(lists(yard), told)
            lists(yard)[at].append(("z", 1, 2, 3))
            self.assertEqual(lists(yard), told)
            lists(yard)[at][0] = ("z", 1, 2, 3)
            self.assertEqual(lists(yard), told)
        self.assertEqual(lists(yard.twin()), told)

    def test_emptied_ones_of_an_empty_yard(self):
        yard = Yard()
        for rows in lists(yard):
            rows.append(("z", 1, 2, 3))
        self.assertEqual(lists(yard), ([], [], [], []))
        self.assertEqual(lists(Yard()), ([], [], [], []))

    def test_each_asking_tells_a_new_list(self):
        yard = yard_of(*DEEDS)
        for first, second in zip(lists(yard), lists(yard)):
            self.assertIs(type(first), list)
            self.assertIsNot(first, second)
            for row in first:
                self.assertIs(type(row), tuple)

    def test_held_over_further_deeds_they_stay(self):
        chance = random.Random(8)
        yard, model = Yard(), Model()
        held = []
        for turn in range(200):
            follow(self, yard, model, any_deed(chance, model, "abcdefghijklmn"))
            told = lists(yard)
            held.append((told, tuple(tuple(rows) for rows in told)))
        for told, was in held:
            self.assertEqual(tuple(tuple(rows) for rows in told), was)


if __name__ == "__main__":
    unittest.main()
