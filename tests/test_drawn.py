"""Boards that are drawn out ([16]), and the same stack elsewhere or asked between deeds."""

import itertools
import random
import unittest

from dunnage.apart import alone, drawable, drawn, first_fall, groups
from dunnage.seek import edge, stands
from dunnage.touch import ends
from dunnage.yard import Yard
from tests.helpers import (
    BAD_NAMES, Model, all_asked, any_deed, any_stack, ask, follow, lists, made_of, model_of, own_drawn, stack_deeds,
    worth, yard_of,
)

# The board a stands by the weight of b on it alone, and c hangs from a.
DEEDS = [
    ("trestle", "t", 2, 0, 4), ("board", "a", 3, 0, 12, 10), ("board", "b", 4, 0, 4, 40), ("board", "c", 1, 10, 20, 2),
    ("sack", "s", "b", 1, 5), ("sack", "r", "a", 0, 6), ("cord", "k", "a", "c", 10), ("cord", "l", "", "c", 20),
]


def told(yard, asked, way):
    """The amount at an edge, or `never`, or `any`."""
    answer = edge(yard, asked, way)
    return worth(answer[1]) if answer[0] == "edge" else answer[0]


def stands_of(rows):
    return stands(made_of(rows))[0] == "stands"


def names_of(yard):
    return [row[0] for row in yard.boards()]


def own_drawable(yard):
    return [name for name in names_of(yard) if stands_of(own_drawn(lists(yard), name))]


def own_first_fall(yard, names):
    if len(set(names)) < len(names) or not set(names) <= set(names_of(yard)):
        return ("no", "NoThing")
    rows = lists(yard)
    for at, name in enumerate(names):
        rows = own_drawn(rows, name)
        if not stands_of(rows):
            return at
    return None


class DrawnTest(unittest.TestCase):
    def test_each_board(self):
        yard = yard_of(*DEEDS)
        before = lists(yard)
        for name, sacks, cords in [("a", "s", "l"), ("b", "r", "kl"), ("c", "rs", "")]:
            other = drawn(yard, name)
            self.assertIs(type(other), Yard)
            self.assertEqual(lists(other), own_drawn(before, name))
            self.assertEqual([row[0] for row in other.sacks()], list(sacks))
            self.assertEqual([row[0] for row in other.cords()], list(cords))
            self.assertEqual(lists(yard), before)

    def test_a_cords_upper_board_and_its_lower_one(self):
        yard = yard_of(("board", "a", 1, 0, 9, 1), ("board", "b", 5, 0, 9, 1), ("cord", "k", "b", "a", 3))
        self.assertEqual(drawn(yard, "a").cords(), [])
        self.assertEqual(drawn(yard, "b").cords(), [])

    def test_names_of_no_board(self):
        yard = yard_of(*DEEDS)
        before = lists(yard)
        for name in ["t", "s", "r", "k", "none", *BAD_NAMES]:
            self.assertEqual(ask(drawn, yard, name), ("no", "NoThing"), name)
            self.assertEqual(ask(drawn, Yard(), name), ("no", "NoThing"), name)
        self.assertEqual(ask(drawn, drawn(yard, "a"), "a"), ("no", "NoThing"))
        self.assertEqual(lists(yard), before)

    def test_one_behind_another(self):
        yard = yard_of(*DEEDS)
        rows = lists(yard)
        for name in "bca":
            yard, rows = drawn(yard, name), own_drawn(rows, name)
            self.assertEqual(lists(yard), rows)
        self.assertEqual(lists(yard), ([], [("t", 2, 0, 4)], [], []))

    def test_many_yards_each_its_own_way(self):
        for seed in range(60):
            chance = random.Random(seed)
            yard = any_stack(chance, boards=6, cords=4)
            if not yard.boards():
                continue
            pairs = [(yard, model_of(lists(yard)))]
            for name in names_of(yard):
                pairs.append((drawn(yard, name), model_of(own_drawn(lists(yard), name))))
                self.assertEqual(lists(pairs[-1][0]), own_drawn(lists(yard), name))
                self.assertEqual(
                    lists(pairs[-1][0]), lists(alone(yard, [other for other in names_of(yard) if other != name])))
            for turn in range(40):
                one, model = chance.choice(pairs)
                follow(self, one, model, any_deed(chance, model, "abcdefghijklmnopqrstuvwxyz"))
                for other, other_model in pairs:
                    self.assertEqual(lists(other), other_model.lists())

    def test_asked_as_a_yard_just_made(self):
        for seed in range(50):
            chance = random.Random(seed)
            yard = any_stack(chance, boards=5, cords=3)
            for name in names_of(yard)[:2]:
                other, fresh = drawn(yard, name), made_of(own_drawn(lists(yard), name))
                self.assertEqual(ends(other), ends(fresh))
                self.assertEqual(stands(other)[0], stands(fresh)[0])
                for asked in all_asked(fresh, chance):
                    for way in ("least", "most"):
                        self.assertEqual(told(other, asked, way), told(fresh, asked, way), asked)


class DrawableTest(unittest.TestCase):
    def test_by_hand(self):
        yard = yard_of(*DEEDS)
        self.assertEqual(stands(yard)[0], "stands")
        # Without a the board c hangs by one cord alone, and b has nothing beneath it.
        self.assertEqual(drawable(yard), ["c"])

    def test_a_board_that_no_other_needs(self):
        yard = yard_of(("trestle", "t", 1, 0, 9), ("board", "b", 2, 0, 9, 1), ("board", "a", 3, 0, 9, 1))
        self.assertEqual(drawable(yard), ["a"])
        yard.do(("along", "a", 6))
        self.assertEqual(drawable(yard), ["a"])

    def test_a_yard_that_comes_down_by_one_board(self):
        yard = yard_of(("trestle", "t", 1, 0, 9), ("board", "b", 2, 0, 9, 1), ("board", "a", 5, 0, 9, 1))
        self.assertEqual(stands(yard)[0], "falls")
        self.assertEqual(drawable(yard), ["a"])
        yard.do(("board", "c", 7, 0, 9, 1))
        self.assertEqual(drawable(yard), [])

    def test_the_only_board(self):
        for deeds in ([("board", "b", 9, 0, 9, 1)], [("trestle", "t", 1, 0, 9), ("board", "b", 2, 0, 9, 1)]):
            self.assertEqual(drawable(yard_of(*deeds)), ["b"])

    def test_a_sack_goes_with_its_board(self):
        yard = yard_of(("trestle", "t", 1, 0, 4), ("board", "a", 2, 0, 8, 1), ("board", "b", 3, 8, 9, 1))
        self.assertEqual(stands(yard)[0], "falls")
        self.assertEqual(drawable(yard), ["b"])
        yard.do(("sack", "s", "b", 8, 100))
        self.assertEqual(drawable(yard), ["b"])

    def test_none(self):
        self.assertEqual(drawable(Yard()), [])
        self.assertEqual(drawable(yard_of(("trestle", "t", 1, 0, 9))), [])

    def test_told_lists_that_are_changed(self):
        yard = yard_of(*DEEDS)
        drawable(yard).append("z")
        drawable(yard).clear()
        self.assertEqual(drawable(yard), ["c"])
        self.assertIs(type(drawable(yard)), list)

    def test_many_yards(self):
        counts = set()
        for seed in range(250):
            chance = random.Random(seed)
            yard = any_stack(chance, boards=6, cords=4)
            before = lists(yard)
            names = drawable(yard)
            self.assertEqual(names, own_drawable(yard))
            self.assertEqual(lists(yard), before)
            counts.add((len(yard.boards()), len(names)))
        self.assertGreater(len(counts), 12)


class FirstFallTest(unittest.TestCase):
    def test_by_hand(self):
        yard = yard_of(*DEEDS)
        for names, number in [([], None), (["c"], None), (["a"], 0), (["b"], 0), (["c", "b"], None), (["c", "a"], 1),
                              (["c", "b", "a"], None), (["c", "a", "b"], 1), (["a", "b", "c"], 0), (["b", "c"], 0)]:
            self.assertEqual(first_fall(yard, names), number, names)

    def test_a_yard_that_falls_at_first(self):
        yard = yard_of(("trestle", "t", 1, 0, 9), ("board", "b", 2, 0, 9, 1), ("board", "a", 5, 0, 9, 1))
        self.assertIsNone(first_fall(yard, []))
        self.assertIsNone(first_fall(yard, ["a"]))
        self.assertIsNone(first_fall(yard, ["a", "b"]))
        self.assertEqual(first_fall(yard, ["b", "a"]), 0)

    def test_strange_names_are_refused_ahead_of_all(self):
        yard = yard_of(*DEEDS)
        before = lists(yard)
        for name in ["t", "s", "r", "k", "none", *BAD_NAMES]:
            for names in ([name], ["a", name], [name, "a"], ["c", name], ["a", "b", "c", name], [name, name]):
                handed = list(names)
                self.assertEqual(ask(first_fall, yard, handed), ("no", "NoThing"), names)
                self.assertEqual(handed, names)
                self.assertEqual(lists(yard), before)

    def test_the_same_one_twice(self):
        yard = yard_of(*DEEDS)
        for names in (["c", "c"], ["a", "a"], ["a", "b", "a"], ["a", "b", "c", "c"], ["c", "b", "a", "c"]):
            self.assertEqual(ask(first_fall, yard, names), ("no", "NoThing"), names)

    def test_a_yard_without_boards(self):
        self.assertIsNone(first_fall(Yard(), []))
        self.assertEqual(ask(first_fall, Yard(), ["a"]), ("no", "NoThing"))
        yard = yard_of(("trestle", "t", 1, 0, 9))
        self.assertIsNone(first_fall(yard, []))
        self.assertEqual(ask(first_fall, yard, ["t"]), ("no", "NoThing"))

    def test_all_orders_of_some_boards(self):
        yard = yard_of(*DEEDS, ("board", "d", 5, 0, 3, 1), ("board", "e", 6, 2, 9, 1))
        before = lists(yard)
        seen = set()
        for count in range(6):
            for names in itertools.permutations("abcde", count):
                handed = list(names)
                number = first_fall(yard, handed)
                self.assertEqual(number, own_first_fall(yard, names), names)
                self.assertEqual((handed, lists(yard)), (list(names), before))
                seen.add(number)
        self.assertTrue({None, 0, 1, 2} <= seen, seen)

    def test_many_yards(self):
        seen = set()
        for seed in range(600):
            chance = random.Random(seed)
            yard = any_stack(chance, boards=6, cords=3)
            if stands(yard)[0] == "falls" and seed % 4:
                continue
            for turn in range(3):
                # From the top on down, but for some, so that several are drawn out before the first fall.
                rows = sorted(yard.boards(), key=lambda row: 1.5 * chance.random() - row[1])
                names = [row[0] for row in rows][:chance.randint(0, 12)]
                if chance.random() < 0.1:
                    names.insert(chance.randint(0, len(names)), chance.choice(["none", "", *names]))
                before = lists(yard), list(names)
                answer = ask(first_fall, yard, names)
                self.assertEqual(answer, own_first_fall(yard, names), names)
                self.assertEqual((lists(yard), names), before)
                seen.add(answer)
        self.assertTrue({None, 0, 1, 2, 3, ("no", "NoThing")} <= seen, seen)


def told_of_all(yard, chance, by=0):
    """All that is told of the yard, places less so many."""
    answers = [stands(yard)[0], groups(yard), drawable(yard)]
    names = names_of(yard)
    for order in (names, names[::-1], names[1:]):
        answers.append(first_fall(yard, order))
    for asked in all_asked(yard, chance):
        for way in ("least", "most"):
            amount = told(yard, asked, way)
            answers.append(amount - by if asked[0] == "move" and not isinstance(amount, str) else amount)
    return answers


def shifted(deed, by):
    if deed[0] in ("trestle", "board"):
        return (*deed[:3], deed[3] + by, deed[4] + by, *deed[5:])
    at = 3 if deed[0] == "sack" else 4
    return (*deed[:at], deed[at] + by, *deed[at + 1:])


class ElsewhereTest(unittest.TestCase):
    def test_moved_along(self):
        moved = 0
        for seed in range(50):
            deeds = stack_deeds(random.Random(seed), boards=5)
            yard = yard_of(*deeds)
            rows = yard.boards() + yard.trestles()
            low, high = -10**6 - min(row[2] for row in rows), 10**6 - max(row[3] for row in rows)
            chance = random.Random(seed)
            for by in [low, high, 1, -1, 100000, -300000, chance.randint(low, high)]:
                if low <= by <= high:
                    moved += 1
                    other = yard_of(*[shifted(deed, by) for deed in deeds])
                    here, there = told_of_all(yard, MiddleChance()), told_of_all(other, MiddleChance(), by)
                    self.assertEqual(there, here, (seed, by))
        self.assertGreater(moved, 200)

    def test_moved_along_by_deeds(self):
        for seed in range(30):
            deeds = [deed for deed in stack_deeds(random.Random(seed), cords=0) if deed[0] != "cord"]
            yard = yard_of(*deeds)
            rows = yard.boards() + yard.trestles()
            by = 10**6 - max(row[3] for row in rows)
            before = told_of_all(yard, MiddleChance())
            # The rightmost go first, so that none crowds another on the way.
            for row in sorted(rows, key=lambda row: -row[3]):
                self.assertIsNone(ask(yard.do, ("along", row[0], by)), row)
            self.assertEqual(told_of_all(yard, MiddleChance(), by), before)

    def test_asked_between_deeds(self):
        for seed in range(20):
            chance = random.Random(seed)
            yard, model = Yard(), Model()
            for turn in range(60):
                follow(self, yard, model, any_deed(chance, model, "abcdefghijkl"))
                if turn % 4 == 0:
                    fresh = told_of_all(made_of(lists(yard)), MiddleChance())
                    self.assertEqual(told_of_all(yard, MiddleChance()), fresh)
                    self.assertEqual(told_of_all(yard.twin(), MiddleChance()), fresh)
                    self.assertEqual(lists(yard), model.lists())


class MiddleChance:
    """Always the third: the place in the middle."""

    def choice(self, spots):
        return spots[2]

    def randint(self, low, high):
        return low


if __name__ == "__main__":
    unittest.main()
