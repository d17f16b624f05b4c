"""All nine deeds together, rows that are none, and yards that are full ([1], [6])."""

import random
import unittest

from dunnage.yard import Yard
from tests.helpers import END, TOLD, Model, any_deed, follow, lists, refusal, yard_of

# One deed of each kind that the yard of `some_yard` takes.
GOOD = [
    ("trestle", "z", 1, 20, 21), ("board", "z", 5, 0, 1, 1), ("away", "t"), ("along", "b", 1), ("sack", "z", "b", 1, 1),
    ("move", "s", "b", 2), ("lift", "s"), ("cord", "z", "", "b", 1), ("cut", "c"),
]


def some_yard():
    return yard_of(
        ("trestle", "t", 1, 0, 9), ("board", "b", 2, 0, 9, 1), ("board", "d", 3, 0, 9, 1), ("board", "e", 4, 0, 9, 1),
        ("sack", "s", "b", 1, 1), ("cord", "c", "e", "d", 1))


class BadDeedTest(unittest.TestCase):
    def test_the_good_ones_are_done(self):
        for deed in GOOD:
            self.assertIsNone(refusal(some_yard(), deed), deed)

    def test_a_row_without_things(self):
        self.assertEqual(refusal(Yard(), ()), "BadDeed")
        self.assertEqual(refusal(some_yard(), ()), "BadDeed")

    def test_another_first_text(self):
        for text in ("", "Board", "BOARD", "boards", " board", "board ", "sit", "twin", "do", "boar", "b", "a"):
            for deed in GOOD:
                self.assertEqual(refusal(some_yard(), (text, *deed[1:])), "BadDeed", text)
            self.assertEqual(refusal(some_yard(), (text,)), "BadDeed", text)

    def test_a_thing_more_or_less(self):
        for deed in GOOD:
            for wrong in [deed[:-1], deed[:1], deed + (1,), deed + ("a",), deed + (1, 2, 3), deed + deed[1:]]:
                self.assertEqual(refusal(some_yard(), wrong), "BadDeed", wrong)

    def test_ahead_of_all_else(self):
        # With the right count each of these would be refused for its things.
        for deed in [("trestle", "", 0, 5, 1), ("board", "", 0, 5, 1, 0), ("away", "none"), ("along", "none", 3 * END),
                     ("sack", "", "none", 99, 0), ("move", "none", "none", 99), ("lift", "none"),
                     ("cord", "", "none", "none", 99), ("cut", "none")]:
            self.assertNotIn(refusal(some_yard(), deed), (None, "BadDeed"))
            self.assertEqual(refusal(some_yard(), deed + (1,)), "BadDeed")
            self.assertEqual(refusal(some_yard(), deed[:-1]), "BadDeed")

    def test_each_count_of_each_kind(self):
        for deed in GOOD:
            for count in range(9):
                told = refusal(some_yard(), (deed[0], *(deed[1:] + (1,) * 9)[:count]))
                self.assertEqual(told == "BadDeed", count != len(deed) - 1, (deed[0], count))


class OrderTest(unittest.TestCase):
    """Rows of deeds, each with one fault less than the one ahead of it: the fault told first is the one refused."""

    def one_by_one(self, yard, *steps):
        for deed, answer in steps:
            self.assertEqual(refusal(yard, deed), answer, deed)

    def test_trestle(self):
        yard = yard_of(*[("trestle", name, 1, 10 * at, 10 * at + 5) for at, name in enumerate("abcdef")])
        self.one_by_one(
            yard, (("trestle", "A", 0, 9, 1), "BadName"), (("trestle", "a", 0, 9, 1), "Taken"),
            (("trestle", "z", 0, 9, 1), "BadCourse"), (("trestle", "z", 1, 9, 1), "BadPlace"),
            (("trestle", "z", 1, 1, 9), "Full"))
        yard.do(("away", "f"))
        self.one_by_one(yard, (("trestle", "z", 1, 1, 9), "Crowded"), (("trestle", "z", 1, 5, 10), None))

    def test_board(self):
        yard = yard_of(*[("board", name, 1, 10 * at, 10 * at + 5, 1) for at, name in enumerate("abcdef")])
        self.one_by_one(
            yard, (("board", "A", 0, 9, 9, 0), "BadName"), (("board", "a", 0, 9, 9, 0), "Taken"),
            (("board", "z", 0, 9, 9, 0), "BadCourse"), (("board", "z", 1, 9, 9, 0), "BadPlace"),
            (("board", "z", 1, 1, 9, 0), "BadWeight"), (("board", "z", 1, 1, 9, 1), "Full"))
        yard.do(("away", "f"))
        self.one_by_one(yard, (("board", "z", 1, 1, 9, 1), "Crowded"), (("board", "z", 1, 5, 10, 1), None))

    def test_along(self):
        yard = yard_of(("board", "b", 2, 0, 9, 1), ("board", "d", 2, 12, END, 1), ("cord", "c", "", "b", 1))
        self.one_by_one(
            yard, (("along", "none", END), "NoThing"), (("along", "b", END), "BadPlace"), (("along", "b", 4), "InUse"))
        yard.do(("cut", "c"))
        self.one_by_one(yard, (("along", "b", 4), "Crowded"), (("along", "b", 3), None))

    def test_sack(self):
        yard = yard_of(("board", "b", 2, 0, 9, 1), *[("sack", name, "b", 1, 1) for name in "pqrstuvw"])
        self.one_by_one(
            yard, (("sack", "P", "none", 10, 0), "BadName"), (("sack", "p", "none", 10, 0), "Taken"),
            (("sack", "z", "none", 10, 0), "NoThing"), (("sack", "z", "b", 10, 0), "BadPlace"),
            (("sack", "z", "b", 9, 0), "BadWeight"), (("sack", "z", "b", 9, 1), "Full"))
        yard.do(("lift", "q"))
        self.one_by_one(yard, (("sack", "z", "b", 9, 1), None))

    def test_move(self):
        yard = yard_of(("board", "b", 2, 0, 9, 1), ("sack", "s", "b", 1, 1))
        self.one_by_one(
            yard, (("move", "none", "none", 10), "NoSack"), (("move", "s", "none", 10), "NoThing"),
            (("move", "s", "b", 10), "BadPlace"), (("move", "s", "b", 9), None))

    def test_cord(self):
        yard = yard_of(
            ("board", "b", 2, 0, 9, 1), ("board", "d", 3, 5, 15, 1), *[("cord", name, "d", "b", 7) for name in "pqrs"])
        self.one_by_one(
            yard, (("cord", "P", "none", "d", 16), "BadName"), (("cord", "p", "none", "d", 16), "Taken"),
            (("cord", "z", "none", "d", 16), "NoThing"), (("cord", "z", "b", "none", 16), "NoThing"),
            (("cord", "z", "b", "d", 16), "BadCord"), (("cord", "z", "d", "b", 16), "BadPlace"),
            (("cord", "z", "d", "b", 10), "BadPlace"), (("cord", "z", "d", "b", 4), "BadPlace"),
            (("cord", "z", "d", "b", 5), "Full"), (("cord", "z", "", "b", 0), "Full"))
        yard.do(("cut", "q"))
        self.one_by_one(yard, (("cord", "z", "d", "b", 5), None))

    def test_all_nine_kinds_over_names_that_they_share(self):
        told = set()
        for seed in range(150):
            chance = random.Random(seed)
            yard, model = Yard(), Model()
            names = chance.choice(["abcdefgh", "abcdefghijklmn", "abcdefghijklmnopqrstuvwxyz"])
            for turn in range(120):
                deed = any_deed(chance, model, names)
                told.add((deed[0], follow(self, yard, model, deed)))
        for kind in TOLD:
            for answer in [None, *TOLD[kind]]:
                self.assertIn((kind, answer), told)


class FullTest(unittest.TestCase):
    """A yard with as many of one kind as there may be, one out, one in, and one too many."""

    def filled(self, ahead, most, new, out):
        """The names from a on are set by `new` until there are `most`; one more is refused, wherever it is tried."""
        yard = yard_of(*ahead)
        names = "abcdefghij"[:most]
        for at, name in enumerate(names):
            self.assertIsNone(refusal(yard, new(name, at)), name)
        self.assertEqual(refusal(yard, new("y", most)), "Full")
        for at in range(most):
            self.assertEqual(refusal(yard, new("y", most)), "Full")
            self.assertIsNone(refusal(yard, (out, names[at])))
            self.assertIsNone(refusal(yard, new(names[at], at)))
        self.assertIsNone(refusal(yard, (out, names[0])))
        self.assertIsNone(refusal(yard, new("y", most)))
        self.assertEqual(refusal(yard, new(names[0], 0)), "Full")
        return yard

    def test_six_boards(self):
        yard = self.filled([], 6, lambda name, at: ("board", name, 1, 10 * at, 10 * at + 9, 1), "away")
        self.assertEqual([row[0] for row in yard.boards()], list("bcdefy"))
        self.assertIsNone(refusal(yard, ("trestle", "t", 2, 0, 1)))

    def test_six_trestles(self):
        yard = self.filled([], 6, lambda name, at: ("trestle", name, 1, 10 * at, 10 * at + 9), "away")
        self.assertEqual([row[0] for row in yard.trestles()], list("bcdefy"))
        self.assertIsNone(refusal(yard, ("board", "t", 2, 0, 1, 1)))

    def test_eight_sacks(self):
        ahead = [("board", "wide", 1, 0, 99, 1)]
        yard = self.filled(ahead, 8, lambda name, at: ("sack", name, "wide", at, 1), "lift")
        self.assertEqual([row[0] for row in yard.sacks()], list("bcdefghy"))
        self.assertIsNone(refusal(yard, ("move", "b", "wide", 50)))

    def test_eight_sacks_of_all_boards_together(self):
        yard = yard_of(("board", "b", 1, 0, 9, 1), ("board", "d", 2, 0, 9, 1))
        for at, name in enumerate("pqrstuvw"):
            yard.do(("sack", name, "bd"[at // 4], at, 1))
        self.assertEqual(refusal(yard, ("sack", "z", "b", 1, 1)), "Full")
        self.assertEqual(refusal(yard, ("sack", "z", "d", 1, 1)), "Full")

    def test_four_cords(self):
        ahead = [("board", "low", 1, 0, 99, 1), ("board", "high", 2, 0, 99, 1)]
        yard = self.filled(ahead, 4, lambda name, at: ("cord", name, ("", "high")[at // 2 % 2], "low", at), "cut")
        self.assertEqual([row[0] for row in yard.cords()], list("bcdy"))

    def test_all_four_kinds_full_at_once(self):
        yard = yard_of(
            *[("board", "b" + name, 2, 10 * at, 10 * at + 9, 1) for at, name in enumerate("abcdef")],
            *[("trestle", "t" + name, 1, 10 * at, 10 * at) for at, name in enumerate("abcdef")],
            *[("sack", "s" + name, "ba", at, 1) for at, name in enumerate("abcdefgh")],
            *[("cord", "c" + name, "", "ba", at) for at, name in enumerate("abcd")])
        self.assertEqual([len(rows) for rows in lists(yard)], [6, 6, 8, 4])
        for deed in [("board", "z", 9, 0, 1, 1), ("trestle", "z", 9, 0, 1), ("sack", "z", "ba", 1, 1),
                     ("cord", "z", "", "ba", 1)]:
            self.assertEqual(refusal(yard, deed), "Full")


if __name__ == "__main__":
    unittest.main()
