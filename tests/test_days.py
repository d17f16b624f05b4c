"""The yard of a day and the word of a row, and diaries apart from one another ([17], [18], [0.2])."""

import itertools
import random
import unittest

from dunnage.diary import Diary
from dunnage.seek import stands
from dunnage.yard import Yard
from tests.helpers import FAR_DEEDS, OwnDiary, any_deed, any_doing, ask, follow_diary, lists, state_of

TRESTLE = ("trestle", "t", 1, 0, 9)
BOARD = ("board", "b", 2, 0, 9, 5)
SACK = ("sack", "s", "b", 3, 2)
EMPTY = ([], [], [], [])


def full(*entries):
    diary = Diary()
    for day, deed in entries:
        diary.enter(day, deed)
    return diary


def words(diary):
    return [diary.word(row[0]) for row in diary.rows()]


class YardOfADayTest(unittest.TestCase):
    def test_days_ahead_of_amid_and_behind_the_rows(self):
        diary = full((10, TRESTLE), (20, BOARD), (30, SACK))
        rows = ([("b", 2, 0, 9, 5)], [("t", 1, 0, 9)], [("s", "b", 3, 2)], [])
        for days, told in [((1, 9), EMPTY), ((10, 19), ([], rows[1], [], [])),
                           ((20, 29), (rows[0], rows[1], [], [])), ((30, 31, 9998, 9999), rows)]:
            for day in days:
                yard = diary.yard(day)
                self.assertEqual(lists(yard), told, day)
                self.assertIs(type(yard), Yard)

    def test_numbers_that_are_no_day(self):
        for diary in (Diary(), full((1, TRESTLE), (9999, BOARD))):
            for day in (0, -1, 10000, 10001, 10**10, -10**30, True, False):
                self.assertEqual(ask(diary.yard, day), ("no", "BadDay"), day)

    def test_an_empty_diary(self):
        for day in (1, 5000, 9999):
            self.assertEqual(lists(Diary().yard(day)), EMPTY)

    def test_the_last_day(self):
        diary = full((9999, TRESTLE))
        self.assertEqual(lists(diary.yard(9998)), EMPTY)
        self.assertEqual(len(diary.yard(9999).trestles()), 1)

    def test_by_days_and_of_one_day_by_numbers(self):
        late_first = full((3, SACK), (2, BOARD), (1, TRESTLE))
        self.assertEqual(words(late_first), ["done"] * 3)
        one_day = full((3, SACK), (3, BOARD), (3, TRESTLE))
        self.assertEqual(words(one_day), ["void", "done", "done"])
        self.assertEqual(one_day.yard(3).sacks(), [])

    def test_days_rise_as_numbers_not_as_texts(self):
        diary = full((10, SACK), (9, BOARD), (100, ("lift", "s")), (99, ("move", "s", "b", 9)))
        self.assertEqual(words(diary), ["done"] * 4)
        self.assertEqual(diary.yard(99).sacks(), [("s", "b", 9, 2)])

    def test_numbers_rise_as_numbers_within_a_day(self):
        diary = full(*[(1, ("trestle", "t", 1, at, at)) if at == 0 else (1, ("along", "t", 1)) for at in range(12)])
        self.assertEqual(words(diary), ["done"] * 12)
        diary.correct(2, 1, ("away", "t"))
        diary.correct(10, 1, ("trestle", "t", 1, 0, 0))
        self.assertEqual(words(diary), ["done"] * 2 + ["void"] * 7 + ["done"] * 3)
        self.assertEqual(diary.yard(1).trestles(), [("t", 1, 2, 2)])

    def test_void_deeds_change_nothing(self):
        diary = full((1, TRESTLE), (2, ("trestle", "t", 3, 0, 9)), (3, BOARD), (4, ("board", "d", 2, 5, 12, 1)),
                     (5, ("away", "none")), (6, ("cord", "c", "", "b", 99)), (7, SACK))
        self.assertEqual(words(diary), ["done", "void", "done", "void", "void", "void", "done"])
        self.assertEqual(lists(diary.yard(7)), lists(full((1, TRESTLE), (3, BOARD), (7, SACK)).yard(7)))

    def test_each_refusal_of_a_yard_makes_a_row_void(self):
        deeds = [TRESTLE, BOARD, SACK, ("cord", "c", "", "b", 1), ("board", "d", 4, 0, 9, 1)]
        for deed in [("board", "t", 5, 0, 9, 1), ("board", "x", 0, 0, 9, 1), ("board", "x", 1, 9, 9, 1),
                     ("board", "x", 1, 0, 9, 0), ("board", "x", 2, 0, 9, 1), ("away", "x"), ("away", "b"),
                     ("along", "b", 1), ("lift", "x"), ("cut", "x"), ("cord", "x", "b", "d", 1), *FAR_DEEDS]:
            diary = full(*[(1, deed) for deed in deeds], (1, deed), (1, ("trestle", "z", 9, 0, 0)))
            self.assertEqual(words(diary), ["done"] * 5 + ["void", "done"], deed)

    def test_full(self):
        diary = full(*[(9 - at, ("trestle", name, 1, 10 * at, 10 * at)) for at, name in enumerate("abcdefgh")])
        self.assertEqual(words(diary), ["void"] * 2 + ["done"] * 6)
        diary.strike(8)
        self.assertEqual(words(diary), ["void"] + ["done"] * 6)


class LateRowsTest(unittest.TestCase):
    def test_a_late_row_makes_others_void_or_good(self):
        diary = full((20, BOARD), (30, SACK))
        self.assertEqual(words(diary), ["done", "done"])
        diary.enter(10, ("sack", "b", "b", 1, 1))
        self.assertEqual(words(diary), ["done", "done", "void"])
        diary.enter(5, ("trestle", "b", 1, 0, 9))
        self.assertEqual(words(diary), ["void", "void", "void", "done"])
        diary.enter(7, ("away", "b"))
        self.assertEqual(words(diary), ["done", "done", "void", "done", "done"])

    def test_struck_out_put_right_and_taken_back(self):
        diary = full((1, TRESTLE), (2, BOARD), (3, SACK))
        diary.strike(2)
        self.assertEqual(words(diary), ["done", "void"])
        self.assertEqual(lists(diary.yard(9)), ([], [("t", 1, 0, 9)], [], []))
        diary.back()
        self.assertEqual(words(diary), ["done", "done", "done"])
        diary.correct(2, 4, BOARD)
        self.assertEqual(words(diary), ["done", "done", "void"])
        self.assertEqual(diary.yard(3).boards(), [])
        diary.back()
        self.assertEqual(diary.yard(3).sacks(), [("s", "b", 3, 2)])
        diary.again()
        self.assertEqual(words(diary), ["done", "done", "void"])

    def test_the_word_is_by_the_yard_of_its_own_day(self):
        diary = full((5, BOARD), (5, ("away", "b")), (5, BOARD), (6, ("away", "b")))
        self.assertEqual(words(diary), ["done"] * 4)
        diary = full((5, BOARD), (6, ("away", "b")), (5, ("cord", "c", "", "b", 1)))
        self.assertEqual(words(diary), ["done", "void", "done"])

    def test_a_cord_from_the_beam(self):
        diary = full((1, ("board", "b", 9, 0, 9, 5)), (2, ("cord", "c", "", "b", 0)), (3, ("cord", "d", "", "b", 9)))
        self.assertEqual(words(diary), ["done"] * 3)
        self.assertEqual([stands(diary.yard(day))[0] for day in (1, 2, 3)], ["falls", "falls", "stands"])
        for deed in [("cord", "c", "b", "", 1), ("sack", "s", "", 1, 1), ("move", "s", "", 1), ("away", ""),
                     ("cord", "", "", "b", 1), ("cord", "c", "", "", 1)]:
            self.assertEqual(ask(diary.enter, 4, deed), ("no", "BadName"), deed)

    def test_the_same_deeds_entered_in_another_order(self):
        entries = [(1, TRESTLE), (2, BOARD), (3, SACK), (4, ("move", "s", "b", 9)), (5, ("cord", "c", "", "b", 9))]
        yards = [lists(full(*entries).yard(day)) for day in range(1, 7)]
        for order in itertools.permutations(entries):
            diary = full(*order)
            self.assertEqual([lists(diary.yard(day)) for day in range(1, 7)], yards)
            self.assertEqual(words(diary), ["done"] * 5)

    def test_many_diaries(self):
        seen = set()
        for seed in range(25):
            chance = random.Random(seed)
            diary, own = Diary(), OwnDiary()
            for turn in range(70):
                follow_diary(self, diary, own, *any_doing(chance, own, "abcdefgh", days=(1, 2, 3, 9999)))
            for day in (1, 2, 3, 4, 9998, 9999):
                self.assertEqual(lists(diary.yard(day)), own.model(day)[0].lists())
            for number in range(own.coming() + 1):
                word = ask(diary.word, number)
                self.assertEqual(word, own.word(number))
                seen.add(word)
        self.assertEqual(seen, {"done", "void", ("no", "NoEntry")})

    def test_two_hundred_rows_in_any_order_of_days(self):
        chance = random.Random(4)
        diary, own = Diary(), OwnDiary()
        for turn in range(200):
            day = chance.randint(1, 40)
            follow_diary(self, diary, own, "enter", day, any_deed(chance, own.model(day)[0], "abcdefghij"))
        for day in range(1, 42):
            self.assertEqual(lists(diary.yard(day)), own.model(day)[0].lists())
        for row in own.rows()[::7]:
            self.assertEqual(diary.word(row[0]), own.word(row[0]))


class ApartTest(unittest.TestCase):
    def test_a_told_yard_that_is_changed(self):
        diary = full((1, TRESTLE), (2, BOARD), (3, SACK))
        before = [lists(diary.yard(day)) for day in (1, 2, 3)]
        for day in (1, 2, 3):
            yard = diary.yard(day)
            yard.do(("trestle", "z", 9, 0, 9))
            yard.do(("along", "t", 1))
            self.assertEqual([lists(diary.yard(day)) for day in (1, 2, 3)], before)
        held = diary.yard(3)
        diary.strike(1)
        diary.enter(1, ("trestle", "u", 1, 0, 9))
        self.assertEqual(lists(held), before[2])

    def test_told_rows_that_are_changed(self):
        diary = full((1, TRESTLE), (2, BOARD))
        state = ([(1, 1, TRESTLE), (2, 2, BOARD)], 3)
        diary.rows().clear()
        self.assertEqual(state_of(diary), state)
        diary.rows().append((3, 1, SACK))
        diary.rows()[0] = (9, 9, SACK)
        diary.rows().reverse()
        self.assertEqual(state_of(diary), state)
        self.assertEqual(words(diary), ["done", "done"])
        empty = Diary()
        empty.rows().append((1, 1, SACK))
        self.assertEqual(state_of(empty), ([], 1))

    def test_told_rows_held_over_further_deeds(self):
        chance = random.Random(2)
        diary, own = Diary(), OwnDiary()
        held = []
        for turn in range(150):
            follow_diary(self, diary, own, *any_doing(chance, own, "abcdef"))
            held.append((diary.rows(), tuple(own.rows())))
        for rows, was in held:
            self.assertEqual(tuple(rows), was)

    def test_a_twin_has_the_same_to_take_back_and_do_again(self):
        diary = full((1, TRESTLE), (2, BOARD), (3, SACK))
        diary.strike(1)
        diary.back()
        diary.back()
        twin = diary.twin()
        self.assertIs(type(twin), Diary)
        self.assertEqual(state_of(twin), state_of(diary))
        for one in (twin, diary):
            one.again()
            one.again()
            self.assertEqual(ask(one.again), ("no", "NothingThere"))
            self.assertEqual([row[0] for row in one.rows()], [2, 3])
            for turn in range(4):
                one.back()
            self.assertEqual(ask(one.back), ("no", "NothingThere"))
            self.assertEqual(state_of(one), ([], 1))

    def test_a_twin_of_an_empty_diary(self):
        diary = Diary()
        twin = diary.twin()
        twin.enter(1, TRESTLE)
        self.assertEqual(state_of(diary), ([], 1))
        self.assertEqual(ask(diary.back), ("no", "NothingThere"))
        self.assertEqual(diary.enter(2, BOARD), 1)
        self.assertEqual(state_of(twin), ([(1, 1, TRESTLE)], 2))

    def test_fresh_diaries_have_nothing_to_do_with_one_another(self):
        first, second = full((1, TRESTLE)), Diary()
        self.assertEqual(state_of(second), ([], 1))
        self.assertEqual(ask(second.back), ("no", "NothingThere"))
        first.back()
        self.assertEqual(ask(second.again), ("no", "NothingThere"))

    def test_diaries_and_twins_by_turns(self):
        for seed in range(15):
            chance = random.Random(seed)
            pairs = [(Diary(), OwnDiary())]
            for turn in range(20):
                follow_diary(self, *pairs[0], *any_doing(chance, pairs[0][1], "abcdef"))
            for at in (0, 1, 0):
                pairs.append((pairs[at][0].twin(), pairs[at][1].twin()))
            pairs.append((Diary(), OwnDiary()))
            for turn in range(120):
                diary, own = chance.choice(pairs)
                follow_diary(self, diary, own, *any_doing(chance, own, "abcdef"))
                for other, other_own in pairs:
                    self.assertEqual(state_of(other), state_of(other_own))
                if turn == 60:
                    pairs.append((diary.twin(), own.twin()))
            for diary, own in pairs:
                self.assertEqual(lists(diary.yard(9999)), own.model(9999)[0].lists())
                while follow_diary(self, diary, own, "back") is None:
                    pass
                while follow_diary(self, diary, own, "again") is None:
                    pass


if __name__ == "__main__":
    unittest.main()
