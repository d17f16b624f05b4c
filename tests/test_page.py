"""Pages: diaries written, read back, and texts that are no pages ([19])."""

import random
import re
import unittest

from dunnage.diary import Diary
from dunnage.errors import NoText
from dunnage.page import read, written
from tests.helpers import FAR_DEEDS, OwnDiary, any_doing, ask, follow_diary, lists, state_of

NAME = "[a-z]{1,8}"
NUMBER = "(?:0|-?[1-9][0-9]{0,9})"
FORMS = [
    f"trestle {NAME}( {NUMBER}){{3}}", f"board {NAME}( {NUMBER}){{4}}", f"away {NAME}", f"along {NAME} {NUMBER}",
    f"sack {NAME} {NAME} {NUMBER} {NUMBER}", f"move {NAME} {NAME} {NUMBER}", f"lift {NAME}",
    f"cord {NAME} (-|{NAME}) {NAME} {NUMBER}", f"cut {NAME}",
]
ROW = re.compile(f"({NUMBER}) ({NUMBER}) (?:{'|'.join(FORMS)})")
DEEDS = [
    ("trestle", "t", 1, -9, 9), ("board", "abcdefgh", 2, -1000000, 1000000, 1000000000), ("away", "t"),
    ("along", "b", -12), ("sack", "s", "b", 0, 7), ("move", "s", "b", -1), ("lift", "s"), ("cord", "c", "", "b", 3),
    ("cord", "d", "a", "b", 0), ("cut", "c"), *FAR_DEEDS,
]
PAGE = ("next 12\n"
        "1 5 trestle t 1 0 9\n"
        "2 9999 board b 2 -3 8 40\n"
        "4 1 sack s b 5 25\n"
        "5 300 cord c - b 8\n"
        "8 300 move s b -9999999999\n"
        "9 2 along b -10\n"
        "11 2 cut c\n")


def first_fault(text):
    """The number of the first wrong row, found by plain patterns, or None."""
    rows = re.findall("[^\n]*\n|[^\n]+", text)
    if not rows:
        return 1
    coming, last = 0, 0
    for at, row in enumerate(rows, start=1):
        found = re.fullmatch(f"next ({NUMBER})\n", row) if at == 1 else re.fullmatch(ROW.pattern + "\n", row)
        if found is None:
            return at
        if at == 1:
            coming = int(found[1])
            if coming < 1:
                return 1
        else:
            number, day = int(found[1]), int(found[2])
            if not (last < number < coming and 1 <= day <= 9999):
                return at
            last = number
    return None


def fault(text):
    """The field of the refusal, or None where the text is read."""
    try:
        read(text)
    except NoText as error:
        assert type(error) is NoText and type(error.at) is int
        return error.at
    return None


class WrittenTest(unittest.TestCase):
    def test_an_empty_diary(self):
        self.assertEqual(written(Diary()), "next 1\n")

    def test_a_whole_page(self):
        diary = Diary()
        for number, day, deed in [(1, 5, ("trestle", "t", 1, 0, 9)), (2, 9999, ("board", "b", 2, -3, 8, 40)),
                                  (3, 7, ("lift", "x")), (4, 1, ("sack", "s", "b", 5, 25)),
                                  (5, 300, ("cord", "c", "", "b", 8)), (6, 1, ("lift", "x")), (7, 1, ("lift", "x")),
                                  (8, 300, ("move", "s", "b", -9999999999)), (9, 2, ("along", "b", -10)),
                                  (10, 4, ("away", "b")), (11, 2, ("cut", "c"))]:
            self.assertEqual(diary.enter(day, deed), number)
        for number in (3, 6, 7, 10):
            diary.strike(number)
        state = state_of(diary)
        self.assertEqual(written(diary), PAGE)
        self.assertEqual(state_of(diary), state)

    def test_all_rows_struck(self):
        diary = Diary()
        diary.enter(1, ("lift", "a"))
        diary.strike(1)
        self.assertEqual(written(diary), "next 2\n")
        self.assertEqual(state_of(read("next 2\n")), ([], 2))

    def test_by_numbers_not_by_days_nor_as_texts(self):
        diary = Diary()
        for number in range(1, 13):
            diary.enter(13 - number, ("along", "b", number))
        rows = [f"{number} {13 - number} along b {number}\n" for number in range(1, 13)]
        self.assertEqual(written(diary), "next 13\n" + "".join(rows))
        self.assertEqual(state_of(read(written(diary))), state_of(diary))

    def test_each_kind_of_deed(self):
        for deed in DEEDS:
            diary = Diary()
            diary.enter(77, deed)
            row = " ".join("-" if thing == "" else str(thing) for thing in deed)
            self.assertEqual(written(diary), f"next 2\n1 77 {row}\n")
            self.assertEqual(state_of(read(written(diary))), ([(1, 77, deed)], 2))

    def test_many_diaries(self):
        for seed in range(40):
            chance = random.Random(seed)
            diary, own = Diary(), OwnDiary()
            for turn in range(60):
                follow_diary(self, diary, own, *any_doing(chance, own, "abcdefgh"))
                self.assertEqual(written(diary), own.page())
            self.assertEqual(written(read(written(diary))), own.page())


class ReadTest(unittest.TestCase):
    def test_a_whole_page(self):
        diary = read(PAGE)
        self.assertIs(type(diary), Diary)
        self.assertEqual(diary.coming(), 12)
        self.assertEqual(diary.rows()[3], (5, 300, ("cord", "c", "", "b", 8)))
        self.assertEqual([row[0] for row in diary.rows()], [1, 2, 4, 5, 8, 9, 11])
        for row in diary.rows():
            self.assertEqual([type(thing) for thing in row], [int, int, tuple])
        self.assertEqual(written(diary), PAGE)

    def test_nothing_to_take_back_or_do_again(self):
        for text in (PAGE, "next 1\n", "next 5\n"):
            diary = read(text)
            self.assertEqual(ask(diary.back), ("no", "NothingThere"))
            self.assertEqual(ask(diary.again), ("no", "NothingThere"))
            self.assertEqual(written(diary), text)

    def test_it_goes_on(self):
        diary = read(PAGE)
        self.assertEqual(diary.enter(1, ("away", "t")), 12)
        diary.strike(5)
        diary.correct(1, 2, ("away", "t"))
        for turn in range(3):
            diary.back()
        self.assertEqual(ask(diary.back), ("no", "NothingThere"))
        self.assertEqual(written(diary), PAGE)
        for turn in range(3):
            diary.again()
        self.assertEqual([row[0] for row in diary.rows()], [1, 2, 4, 8, 9, 11, 12])

    def test_two_read_of_one_text(self):
        first, second = read(PAGE), read(PAGE)
        first.strike(1)
        self.assertEqual(written(second), PAGE)
        self.assertEqual(ask(second.back), ("no", "NothingThere"))

    def test_many_diaries_go_on(self):
        for seed in range(20):
            chance = random.Random(seed)
            diary, own = Diary(), OwnDiary()
            for turn in range(40):
                follow_diary(self, diary, own, *any_doing(chance, own, "abcdefgh"))
            again = read(written(diary))
            other = OwnDiary()
            other.now = own.now
            for turn in range(40):
                follow_diary(self, again, other, *any_doing(chance, other, "abcdefgh"))
            for day in (1, 5, 9999):
                self.assertEqual(lists(again.yard(day)), other.model(day)[0].lists())
            while follow_diary(self, again, other, "back") is None:
                pass
            self.assertEqual(state_of(again), state_of(own))


class WrongTextTest(unittest.TestCase):
    def check(self, text, at):
        self.assertEqual(first_fault(text), at, text)
        self.assertEqual(fault(text), at, text)

    def test_the_class_alone(self):
        self.assertEqual(ask(read, ""), ("no", "NoText"))

    def test_odd_texts(self):
        for text in ("", "\n", " ", "\n\n", "next", "next\n", "next \n", "next 1", "next 1 \n", " next 1\n",
                     "next  1\n", "Next 1\n", "NEXT 1\n", "next 1 1\n", "1\n", "next one\n", "next 0\n", "next -1\n", "next +1\n",
                     "next 01\n", "next -0\n", "next 1.0\n", "next 1_0\n", "next 10000000000\n", "next 1\r\n",
                     "next 1\r", "next\t1\n", "next \u0661\n", "next \uff11\n", "next \u00b2\n", "next 1\x0b",
                     "next 1\x00\n", "\ufeffnext 1\n", "next 1 1 1 away a\n", "1 1 away a\n", "no NoText",
                     "next 1\u2028", "next -\n", "next --1\n", "next 00\n", "next 0x1\n", "next 1e3\n",
                     "next " + "9" * 5000 + "\n"):
            self.check(text, 1)

    def test_texts_that_are_right(self):
        for text in ("next 1\n", "next 9999999999\n", "next 2\n1 1 away a\n",
                     "next 9999999999\n9999999998 9999 cut z\n",
                     "next 7\n3 1 cord c - b 0\n", "next 2\n1 1 along a -9999999999\n", "next 2\n1 1 along a 0\n"):
            self.check(text, None)
            self.assertEqual(written(read(text)), text)

    def test_a_second_row_that_is_wrong(self):
        for row in ("", " ", "1", "1 1", "1 1 ", "1 1 away", "1 1 away ", "1 1 away a ", " 1 1 away a", "1  1 away a",
                    "1 1  away a", "1 1 away  a", "1 1 away a b", "1 1 fly a", "1 1 Away a", "1 1 away A",
                    "1 1 away a1", "1 1 away abcdefghi", "1 1 away -", "1 0 away a", "1 -1 away a", "1 10000 away a",
                    "0 1 away a", "-1 1 away a", "5 1 away a", "6 1 away a", "01 1 away a", "1 01 away a",
                    "+1 1 away a", "1 +1 away a", "1 1 along a 01", "1 1 along a -0", "1 1 along a +1", "1 1 along a",
                    "1 1 along a 1 1", "1 1 along a 10000000000", "1 1 along a -10000000000", "1 1 along a -",
                    "1 1 along a --1", "1 1 along a 1-", "1 1 along a one", "1 1 along a 1.0", "1 1 along a \u0661",
                    "1 1 along a 1\r", "1 1 along a \u00b2", "1 1 cord c  b 0", "1 1 cord c - - 0",
                    "1 1 cord - - b 0", "1 1 cord c -- b 0", "1 1 cord c b - 0", "1 1 cord c -b b 0",
                    "1 1 cord c - b -", "1 1 sack s - 0 1", "1 1 move s - 0", "1 1 trestle - 1 0 9",
                    "1 1 board b 1 0 9", "1 1 board b 1 0 9 1 1", "next 5", "1 1 next 5", "\t1 1 away a",
                    "1\t1 away a", "1 1 away\ta", "1 1 away a\t", "1 1 away a\x0c", "1 1 away a\u2028",
                    "1.0 1 away a", "10000000000 1 away a", "1 10000000000 away a", "- 1 away a", "1 - away a",
                    "away a", "1 away a", "1 1 1 away a", "1 1 away \u00e9", "1 1 lift a\x0b", "1 1 cut a\x85"):
            self.check(f"next 5\n{row}\n", 2)
            if row:
                self.check(f"next 5\n{row}", 2)
            self.check(f"next 5\n{row}\n2 2 cut c\n", 2)
            self.check(f"next 5\n{row}\n\n", 2)
            self.check(f"next 5\n1 1 lift a\n2 2 cut c\n{row}\n", 4)
            self.check(f"next 0\n{row}\n", 1)

    def test_numbers_rise(self):
        row = "{} 1 away a\n".format
        self.check("next 5\n" + row(1) + row(1), 3)
        self.check("next 5\n" + row(2) + row(1), 3)
        self.check("next 5\n" + row(1) + row(3) + row(2) + row(4), 4)
        self.check("next 5\n" + row(1) + row(2) + row(3) + row(4), None)
        self.check("next 5\n" + row(1) + row(2) + row(3) + row(5), 5)
        self.check("next 4\n" + row(1) + row(2) + row(3) + row(4), 5)
        self.check("next 11\n" + row(9) + row(10), None)
        self.check("next 11\n" + row(10) + row(9), 3)
        self.check("next 1\n" + row(1), 2)
        self.check("next 1\n" + row(0), 2)

    def test_the_first_wrong_row_is_told(self):
        self.check("next 5\n1 0 away a\n1 0 away a\n", 2)
        self.check("next 5\n1 1 away a\n2 0 away a\n1 0 away a", 3)
        self.check("next 5\n1 1 away A\n2 2 away a", 2)
        self.check("next\n1 1 away A\n", 1)

    def test_a_row_that_lacks_its_line_feed(self):
        rows = PAGE.split("\n")[:-1]
        for count in range(1, len(rows) + 1):
            self.check("\n".join(rows[:count]), count)
            self.check("\n".join(rows[:count]) + "\n", None)
            self.check("\n".join(rows[:count]) + "\n ", count + 1)
            self.check("\n".join(rows[:count]) + "\n\n", count + 1)
            self.check("\n".join(rows[:count]) + "\nx", count + 1)

    def test_rows_left_out_twice_or_exchanged(self):
        rows = PAGE.splitlines(keepends=True)
        for at in range(len(rows)):
            self.check("".join(rows[:at] + rows[at + 1:]), 1 if at == 0 else None)
            self.check("".join(rows[:at + 1] + rows[at:]), at + 2)
            self.check("".join(rows[:at] + ["\n"] + rows[at:]), at + 1)
            for other in range(at + 1, len(rows)):
                bent = list(rows)
                bent[at], bent[other] = bent[other], bent[at]
                self.check("".join(bent), at + 1 if at == 0 else at + 2)

    def test_cut_off_anywhere(self):
        for at in range(len(PAGE)):
            text = PAGE[:at]
            self.assertEqual(fault(text), first_fault(text), text)
            if at:
                self.assertEqual(fault(PAGE[at:]), first_fault(PAGE[at:]))

    def test_each_sign_put_in_out_or_in_the_place_of_another(self):
        wrong = right = 0
        for at in range(len(PAGE) + 1):
            texts = [PAGE[:at] + PAGE[at + 1:]]
            for sign in " -0159azA\n+\t\r.\u00e9\u0661\x00":
                texts += [PAGE[:at] + sign + PAGE[at:], PAGE[:at] + sign + PAGE[at + 1:]]
            for text in texts:
                told = fault(text)
                self.assertEqual(told, first_fault(text), text)
                wrong += told is not None
                right += told is None
                if told is None:
                    self.assertEqual(written(read(text)), text)
        self.assertGreater(wrong, 2000)
        self.assertGreater(right, 300)

    def test_many_pages_bent(self):
        words = [
            "", "-", "0", "1", "-1", "00", "a", "A", "next", "board", "away", "9999999999", "10000000000", "10000",
            "x y"]
        for seed in range(60):
            chance = random.Random(seed)
            own = OwnDiary()
            for turn in range(25):
                doing, *things = any_doing(chance, own, "abcdefgh")
                getattr(own, doing)(*things)
            page = own.page()
            self.assertIsNone(fault(page))
            for turn in range(40):
                rows = [row.split(" ") for row in page.split("\n")]
                row = chance.choice(rows)
                at = chance.randrange(len(row))
                row[at:at + chance.choice([0, 1, 1])] = [chance.choice(words)]
                text = "\n".join(" ".join(row) for row in rows)
                self.assertEqual(fault(text), first_fault(text), text)
                if fault(text) is None:
                    self.assertEqual(written(read(text)), text)


if __name__ == "__main__":
    unittest.main()
