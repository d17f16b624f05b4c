"""The diary: what is entered, struck out, put right, taken back and done again ([17], [18])."""

import random
import unittest

from dunnage.diary import Diary
from tests.helpers import (
    BAD_NAMES, FAR_DEEDS, NAME_PLACES, OwnDiary, WRONG_DEEDS, any_doing, ask, entry_fault, follow_diary, state_of,
)

DEED = ("away", "a")
DEEDS = [
    ("trestle", "t", 1, 0, 9), ("board", "b", 2, 0, 9, 1), ("away", "t"), ("along", "b", -5), ("sack", "s", "b", 1, 1),
    ("move", "s", "b", 2), ("lift", "s"), ("cord", "c", "", "b", 1), ("cord", "c", "d", "b", 1), ("cut", "c"),
]
GOOD_DAYS = [1, 2, 365, 9998, 9999]
BAD_DAYS = [0, -1, 10000, 10001, -9999, 10**10, 10**20, True, False]


def full(*entries):
    diary = Diary()
    for day, deed in entries:
        diary.enter(day, deed)
    return diary


class EnterTest(unittest.TestCase):
    def test_an_empty_diary(self):
        diary = Diary()
        self.assertEqual(state_of(diary), ([], 1))
        for doing in (diary.back, diary.again):
            self.assertEqual(ask(doing), ("no", "NothingThere"))

    def test_numbers_are_given_one_behind_another(self):
        diary = Diary()
        for number, deed in enumerate(DEEDS * 3, start=1):
            self.assertEqual(diary.coming(), number)
            self.assertEqual(diary.enter(10000 - number, deed), number)
        self.assertEqual(state_of(diary), (
            [(number, 10000 - number, deed) for number, deed in enumerate(DEEDS * 3, start=1)], len(DEEDS) * 3 + 1))

    def test_kinds(self):
        diary = full((3, DEED), (4, DEEDS[0]))
        self.assertIs(type(diary.rows()), list)
        for row in diary.rows():
            self.assertEqual([type(thing) for thing in row], [int, int, tuple])
            self.assertIs(type(row), tuple)
        self.assertIs(type(diary.coming()), int)

    def test_days(self):
        diary = Diary()
        for day in GOOD_DAYS:
            self.assertIsInstance(diary.enter(day, DEED), int)
        state = state_of(diary)
        for day in BAD_DAYS:
            self.assertEqual(ask(diary.enter, day, DEED), ("no", "BadDay"), day)
            self.assertEqual(ask(diary.correct, 1, day, DEED), ("no", "BadDay"), day)
            self.assertEqual(state_of(diary), state)

    def test_rows_that_are_no_deed(self):
        diary = full((1, DEED))
        for deed in WRONG_DEEDS:
            fault = entry_fault(1, deed)
            self.assertIn(fault, ("BadDeed", "BadName"))
            self.assertEqual(ask(diary.enter, 1, deed), ("no", fault), deed)
            self.assertEqual(ask(diary.correct, 1, 1, deed), ("no", fault), deed)
            self.assertEqual(state_of(diary), ([(1, 1, DEED)], 2))

    def test_a_thing_more_or_less(self):
        diary = Diary()
        for deed in DEEDS:
            for wrong in [deed[:at] for at in range(len(deed))] + [(*deed, 1), (*deed, "a"), (*deed, *deed)]:
                self.assertEqual(ask(diary.enter, 1, wrong), ("no", "BadDeed"), wrong)
        self.assertEqual(state_of(diary), ([], 1))

    def test_numbers_of_10_and_of_11_figures(self):
        for deed in DEEDS:
            for at in range(1, len(deed)):
                if isinstance(deed[at], int):
                    for number in (9999999999, -9999999999, 0, 1000000000, -1000000001):
                        row = (*deed[:at], number, *deed[at + 1:])
                        self.assertEqual(full((1, row)).rows(), [(1, 1, row)])
                    for number in (10000000000, -10000000000, 10**11, 10**5000, -10**5000):
                        row = (*deed[:at], number, *deed[at + 1:])
                        self.assertEqual(ask(Diary().enter, 1, row), ("no", "BadDeed"))

    def test_true_and_false_are_no_numbers(self):
        for deed in DEEDS:
            for at in range(1, len(deed)):
                if isinstance(deed[at], int):
                    for wrong in (True, False):
                        row = (*deed[:at], wrong, *deed[at + 1:])
                        self.assertEqual(ask(Diary().enter, 1, row), ("no", "BadDeed"))

    def test_texts_that_are_no_names(self):
        for deed in DEEDS:
            for at in NAME_PLACES[deed[0]]:
                for name in [*BAD_NAMES, "-", "--"]:
                    row = (*deed[:at], name, *deed[at + 1:])
                    answer = 1 if (deed[0], at, name) == ("cord", 2, "") else ("no", "BadName")
                    self.assertEqual(ask(Diary().enter, 1, row), answer, row)
                for name in ["a", "z", "abcdefgh", "zzzzzzzz", "board", "next", "none"]:
                    row = (*deed[:at], name, *deed[at + 1:])
                    self.assertEqual(ask(Diary().enter, 1, row), 1, row)

    def test_deeds_that_a_yard_would_refuse_are_entered_as_they_are(self):
        diary = Diary()
        deeds = FAR_DEEDS + [("board", "a", 0, 9, 3, -5), ("trestle", "a", 99, 2000000, -1), ("sack", "a", "a", 1, 0)]
        for number, deed in enumerate(deeds, start=1):
            self.assertEqual(diary.enter(5, deed), number)
        self.assertEqual([row[2] for row in diary.rows()], deeds)

    def test_the_order_of_refusals(self):
        diary = full((1, DEED))
        self.assertEqual(ask(diary.enter, 0, ("away",)), ("no", "BadDay"))
        self.assertEqual(ask(diary.enter, 0, ("away", "A")), ("no", "BadDay"))
        self.assertEqual(ask(diary.enter, 1, ("along", "A", 10**10)), ("no", "BadDeed"))
        self.assertEqual(ask(diary.enter, 1, ("along", "A")), ("no", "BadDeed"))
        for number in (0, 2, -1):
            self.assertEqual(ask(diary.correct, number, 0, ("away",)), ("no", "NoEntry"))
            self.assertEqual(ask(diary.correct, number, 1, ("away", "A")), ("no", "NoEntry"))
        self.assertEqual(ask(diary.correct, 1, 0, ("away",)), ("no", "BadDay"))
        self.assertEqual(ask(diary.correct, 1, 0, ("away", "A")), ("no", "BadDay"))
        self.assertEqual(ask(diary.correct, 1, 1, ("along", "A", 10**10)), ("no", "BadDeed"))
        self.assertEqual(ask(diary.correct, 1, 1, ("along", "A", 1)), ("no", "BadName"))


class StrikeAndCorrectTest(unittest.TestCase):
    def test_struck_out(self):
        diary = full((1, DEED), (2, DEEDS[0]), (3, DEEDS[1]))
        self.assertIsNone(diary.strike(2))
        self.assertEqual(state_of(diary), ([(1, 1, DEED), (3, 3, DEEDS[1])], 4))
        self.assertIsNone(diary.strike(3))
        self.assertEqual(state_of(diary), ([(1, 1, DEED)], 4))
        self.assertEqual(diary.enter(5, DEED), 4)

    def test_numbers_that_no_row_has_now(self):
        diary = full((1, DEED), (2, DEEDS[0]), (3, DEEDS[1]))
        diary.strike(2)
        state = state_of(diary)
        for number in (2, 0, -1, 4, 5, 10**10, -10**30, True, False):
            self.assertEqual(ask(diary.strike, number), ("no", "NoEntry"), number)
            self.assertEqual(ask(diary.correct, number, 1, DEED), ("no", "NoEntry"), number)
            self.assertEqual(ask(diary.word, number), ("no", "NoEntry"), number)
            self.assertEqual(state_of(diary), state)

    def test_put_right(self):
        diary = full((1, DEED), (2, DEEDS[0]))
        self.assertIsNone(diary.correct(1, 9, DEEDS[4]))
        self.assertEqual(state_of(diary), ([(1, 9, DEEDS[4]), (2, 2, DEEDS[0])], 3))
        diary.correct(2, 9, DEEDS[0])
        diary.correct(1, 9, DEED)
        self.assertEqual(state_of(diary), ([(1, 9, DEED), (2, 9, DEEDS[0])], 3))


class BackAndAgainTest(unittest.TestCase):
    def test_an_entering_is_taken_back_with_its_number(self):
        diary = full((1, DEED), (2, DEEDS[0]))
        self.assertIsNone(diary.back())
        self.assertEqual(state_of(diary), ([(1, 1, DEED)], 2))
        self.assertIsNone(diary.again())
        self.assertEqual(state_of(diary), ([(1, 1, DEED), (2, 2, DEEDS[0])], 3))
        diary.back()
        self.assertEqual(diary.enter(7, DEEDS[1]), 2)
        self.assertEqual(state_of(diary), ([(1, 1, DEED), (2, 7, DEEDS[1])], 3))
        self.assertEqual(ask(diary.again), ("no", "NothingThere"))

    def test_a_strike_and_a_correction(self):
        diary = full((1, DEED), (2, DEEDS[0]))
        diary.correct(1, 5, DEEDS[1])
        diary.strike(1)
        self.assertEqual(state_of(diary), ([(2, 2, DEEDS[0])], 3))
        diary.back()
        self.assertEqual(state_of(diary), ([(1, 5, DEEDS[1]), (2, 2, DEEDS[0])], 3))
        diary.back()
        self.assertEqual(state_of(diary), ([(1, 1, DEED), (2, 2, DEEDS[0])], 3))
        diary.again()
        diary.again()
        self.assertEqual(state_of(diary), ([(2, 2, DEEDS[0])], 3))
        self.assertEqual(ask(diary.again), ("no", "NothingThere"))

    def test_the_last_row_struck_leaves_the_next_number(self):
        diary = full((1, DEED))
        diary.strike(1)
        self.assertEqual(state_of(diary), ([], 2))
        diary.back()
        self.assertEqual(state_of(diary), ([(1, 1, DEED)], 2))
        diary.back()
        self.assertEqual(state_of(diary), ([], 1))
        diary.again()
        diary.again()
        self.assertEqual(state_of(diary), ([], 2))
        self.assertEqual(diary.enter(1, DEED), 2)

    def test_a_correction_to_what_the_row_has_already_is_a_deed(self):
        diary = full((1, DEED))
        diary.back()
        diary.again()
        diary.correct(1, 1, DEED)
        self.assertEqual(ask(diary.again), ("no", "NothingThere"))
        diary.back()
        self.assertEqual(state_of(diary), ([(1, 1, DEED)], 2))
        diary.back()
        self.assertEqual(state_of(diary), ([], 1))
        self.assertEqual(ask(diary.back), ("no", "NothingThere"))
        diary.again()
        diary.again()
        self.assertEqual(ask(diary.again), ("no", "NothingThere"))

    def test_such_a_correction_ends_what_can_be_done_again(self):
        diary = full((1, DEED), (2, DEED))
        diary.back()
        diary.correct(1, 1, DEED)
        self.assertEqual(ask(diary.again), ("no", "NothingThere"))

    def test_a_strike_ends_what_can_be_done_again(self):
        diary = full((1, DEED), (2, DEED))
        diary.back()
        diary.strike(1)
        self.assertEqual(ask(diary.again), ("no", "NothingThere"))
        diary.back()
        self.assertEqual(state_of(diary), ([(1, 1, DEED)], 2))

    def test_a_refusal_does_not_end_it(self):
        diary = full((1, DEED), (2, DEED))
        diary.back()
        for doing, *things in [("enter", 0, DEED), ("enter", 1, ()), ("enter", 1, ("away", "A")), ("strike", 2),
                               ("correct", 2, 1, DEED), ("correct", 1, 0, DEED), ("correct", 1, 1, ("away",)),
                               ("correct", 1, 1, ("lift", "")), ("word", 2), ("yard", 0)]:
            self.assertEqual(ask(getattr(diary, doing), *things)[0], "no")
        diary.rows(), diary.coming(), diary.yard(3), diary.word(1), diary.twin()
        self.assertIsNone(diary.again())
        self.assertEqual(state_of(diary), ([(1, 1, DEED), (2, 2, DEED)], 3))

    def test_nothing_there_changes_nothing(self):
        diary = full((1, DEED))
        self.assertEqual(ask(diary.again), ("no", "NothingThere"))
        self.assertEqual(state_of(diary), ([(1, 1, DEED)], 2))
        diary.back()
        self.assertEqual(ask(diary.back), ("no", "NothingThere"))
        self.assertEqual(ask(diary.back), ("no", "NothingThere"))
        diary.again()
        self.assertEqual(state_of(diary), ([(1, 1, DEED)], 2))


class ManyDoingsTest(unittest.TestCase):
    def wind(self, diary, own):
        """All taken back and done again, with NothingThere at both ends."""
        while follow_diary(self, diary, own, "again") is None:
            pass
        state = state_of(diary)
        while follow_diary(self, diary, own, "back") is None:
            pass
        self.assertEqual(state_of(diary), ([], 1))
        while follow_diary(self, diary, own, "again") is None:
            pass
        self.assertEqual(state_of(diary), state)

    def test_all_kinds(self):
        seen = set()
        for seed in range(25):
            chance = random.Random(seed)
            diary, own = Diary(), OwnDiary()
            for turn in range(120):
                doing, *things = any_doing(chance, own, "abcdefghijkl")
                told = follow_diary(self, diary, own, doing, *things)
                seen.add((doing, told if isinstance(told, tuple) else "done"))
            self.wind(diary, own)
        for doing, refusals in [("enter", ["BadDay", "BadDeed", "BadName"]), ("strike", ["NoEntry"]),
                                ("correct", ["NoEntry", "BadDay", "BadDeed", "BadName"]), ("back", ["NothingThere"]),
                                ("again", ["NothingThere"])]:
            self.assertEqual({told for other, told in seen if other == doing},
                             {"done", *[("no", name) for name in refusals]})

    def test_some_two_hundred_rows(self):
        chance = random.Random(9)
        diary, own = Diary(), OwnDiary()
        while len(own.rows()) < 220:
            doing, *things = any_doing(chance, own, "abcdefghijklmnop")
            follow_diary(self, diary, own, doing, *things)
        self.wind(diary, own)

    def test_more_rows_than_are_promised_raise_nothing(self):
        diary = Diary()
        for number in range(1, 401):
            self.assertEqual(diary.enter(1 + number % 7, ("trestle", "t", 1, number, number)), number)
        self.assertEqual((len(diary.rows()), diary.coming()), (400, 401))
        self.assertEqual(len(diary.yard(9999).trestles()), 1)


if __name__ == "__main__":
    unittest.main()
