"""The desk and its lines ([20])."""

import random
import re
import unittest

from dunnage.apart import drawable
from dunnage.desk import Desk
from dunnage.diary import Diary
from dunnage.page import read
from dunnage.seek import edge, stands
from tests.helpers import FAR_DEEDS, OwnDiary, all_asked, any_doing, ask, lists, made_of, stack_deeds, state_of

NUMBER = "(?:0|-?[1-9][0-9]{0,9})"
WORD = "[^ ]+"
DEED = "|".join([
    f"(?:trestle {WORD}(?: {NUMBER}){{3}})", f"(?:board {WORD}(?: {NUMBER}){{4}})", f"(?:away {WORD})",
    f"(?:along {WORD} {NUMBER})", f"(?:sack {WORD} {WORD} {NUMBER} {NUMBER})", f"(?:move {WORD} {WORD} {NUMBER})",
    f"(?:lift {WORD})", f"(?:cord {WORD} {WORD} {WORD} {NUMBER})", f"(?:cut {WORD})"])
ASKED = f"weight {WORD} {NUMBER}|move {WORD}|trestle {WORD}|cord {WORD}"
LINES = re.compile("|".join([
    f"enter {NUMBER} (?:{DEED})", f"strike {NUMBER}", f"correct {NUMBER} {NUMBER} (?:{DEED})", "back", "again",
    f"word {NUMBER}", f"stands {NUMBER}", f"(?:least|most) {NUMBER} (?:{ASKED})", f"draw {NUMBER}", "page"]))
NUMBER_PLACES = {
    "trestle": (2, 3, 4), "board": (2, 3, 4, 5), "along": (2,), "sack": (3, 4), "move": (3,), "cord": (4,),
}


def row_of(words, asked):
    """The deed, or what is asked for, that these words tell."""
    places = (2,) if asked and words[0] == "weight" else () if asked else NUMBER_PLACES.get(words[0], ())
    row = [int(word) if at in places else word for at, word in enumerate(words)]
    if row[0] == "cord" and not asked and row[2] == "-":
        row[2] = ""
    return tuple(row)


def no(answer):
    return f"no {answer[1]}" if isinstance(answer, tuple) and answer[0] == "no" else None


def own_answer(own, line):
    """What a desk with this diary answers."""
    if LINES.fullmatch(line) is None:
        return "no NoText"
    first, *words = line.split(" ")
    if first == "page":
        return own.page()
    if first in ("back", "again", "strike", "enter", "correct", "word"):
        count = {"enter": 1, "correct": 2, "strike": 1, "word": 1}.get(first, 0)
        things = [int(word) for word in words[:count]]
        if first in ("enter", "correct"):
            things.append(row_of(words[count:], False))
        told = getattr(own, first)(*things)
        return no(told) or ("done" if told is None else str(told))
    if int(words[0]) not in range(1, 10000):
        return "no BadDay"
    yard = made_of(own.model(int(words[0]))[0].lists())
    if first == "stands":
        return {"stands": "yes", "falls": "no"}[stands(yard)[0]]
    if first == "draw":
        return " ".join(drawable(yard)) or "none"
    told = ask(edge, yard, row_of(words[1:], True), first)
    if told[0] == "edge":
        return f"{told[1][0]}/{told[1][1]}"
    return no(told) or told[0]


def line_of(*things):
    """A line of words; a deed or what is asked for stands as a row of its own."""
    words = []
    for thing in things:
        words += list(thing) if isinstance(thing, tuple) else [thing]
    return " ".join("-" if word == "" else str(word) for word in words)


def desk_of(*lines):
    desk = Desk()
    for line in lines:
        desk.say(line)
    return desk


STACK = [
    "enter 5 trestle t 1 2 8", "enter 5 board plank 2 0 11 10", "enter 6 sack s plank 3 4", "enter 7 cord c - plank 11",
    "enter 8 lift none",
]


# With names of the lines that are made by chance.
STANDING = [
    "enter 1 trestle a 1 0 9", "enter 1 board b 2 0 9 10", "enter 1 board c 3 0 3 5", "enter 2 sack d b 3 4",
    "enter 2 cord e - b 9",
]


class LinesTest(unittest.TestCase):
    def check(self, desk, *lines):
        for line, answer in lines:
            self.assertEqual(desk.say(line), answer, line)

    def test_by_hand(self):
        self.check(
            Desk(), ("page", "next 1\n"), ("stands 1", "yes"), ("draw 1", "none"), ("back", "no NothingThere"),
            ("again", "no NothingThere"), ("enter 5 trestle t 1 2 8", "1"), ("enter 5 board plank 2 0 11 10", "2"),
            ("stands 4", "yes"), ("stands 5", "yes"), ("most 5 weight plank 11", "25/3"),
            ("least 5 weight plank 11", "0/1"), ("most 5 weight plank 5", "any"), ("enter 6 sack s plank 11 9", "3"),
            ("stands 6", "no"), ("stands 5", "yes"), ("most 6 weight plank 5", "any"),
            ("least 6 weight plank 2", "1/3"), ("least 6 trestle t", "never"), ("most 6 move s", "97/9"),
            ("least 6 move s", "0/1"), ("correct 3 6 sack s plank 10 9", "done"), ("stands 6", "yes"),
            ("most 6 trestle t", "19/1"), ("draw 6", "plank"), ("word 3", "done"), ("strike 2", "done"),
            ("word 3", "void"), ("draw 6", "none"), ("word 2", "no NoEntry"), ("back", "done"), ("word 2", "done"),
            ("again", "done"), ("page", "next 4\n1 5 trestle t 1 2 8\n3 6 sack s plank 10 9\n"))

    def test_a_cord_from_the_beam(self):
        desk = Desk()
        self.check(
            desk, ("enter 1 board b 3 0 10 8", "1"), ("stands 1", "no"), ("draw 1", "b"), ("enter 1 cord c - b 0", "2"),
            ("enter 1 cord d - b 10", "3"), ("stands 1", "yes"), ("most 1 cord c", "4/1"), ("least 1 cord d", "4/1"),
            ("page", "next 4\n1 1 board b 3 0 10 8\n2 1 cord c - b 0\n3 1 cord d - b 10\n"),
            ("enter 1 cord e b - 5", "no BadName"), ("enter 1 sack s - 5 1", "no BadName"),
            ("enter 1 away -", "no BadName"), ("enter 1 cord - - b 5", "no BadName"),
            ("correct 1 1 lift -", "no BadName"))
        self.assertEqual(desk.diary().rows()[1], (2, 1, ("cord", "c", "", "b", 0)))

    def test_several_boards_to_draw(self):
        self.check(
            desk_of("enter 1 trestle t 1 0 9", "enter 1 board z 2 0 4 1", "enter 1 board b 2 5 9 1",
                    "enter 2 board a 3 0 9 1", "enter 3 board y 8 0 9 1", "enter 4 board x 6 0 9 1"),
            ("draw 1", "b z"), ("draw 2", "a"), ("draw 3", "y"), ("draw 4", "none"))

    def test_answers_are_texts(self):
        desk = desk_of(*STACK)
        for line in ("enter 1 lift a", "strike 1", "back", "again", "word 2", "stands 1", "draw 9", "page",
                     "most 9 cord c", "least 9 weight plank 1", "strike 99", "fly"):
            self.assertIs(type(desk.say(line)), str)

    def test_each_refusal(self):
        self.check(
            desk_of(*STACK), ("enter 0 lift a", "no BadDay"), ("enter 10000 lift a", "no BadDay"),
            ("enter -1 lift a", "no BadDay"), ("enter 1 lift A", "no BadName"),
            ("enter 1 lift abcdefghi", "no BadName"), ("enter 1 cord c B b 1", "no BadName"),
            ("strike 0", "no NoEntry"), ("strike 6", "no NoEntry"), ("strike -1", "no NoEntry"),
            ("correct 9 1 lift a", "no NoEntry"), ("correct 1 0 lift a", "no BadDay"),
            ("correct 1 1 lift A", "no BadName"), ("word 0", "no NoEntry"), ("word 6", "no NoEntry"),
            ("again", "no NothingThere"), ("stands 0", "no BadDay"), ("stands 10000", "no BadDay"),
            ("draw 0", "no BadDay"), ("draw 10000", "no BadDay"), ("least 9 weight none 1", "no NoThing"),
            ("most 9 weight t 1", "no NoThing"), ("most 9 weight - 1", "no NoThing"),
            ("most 9 weight plank 12", "no BadPlace"), ("least 9 weight plank -1", "no BadPlace"),
            ("most 9 trestle plank", "no NoThing"), ("most 9 trestle A", "no NoThing"),
            ("least 9 move plank", "no NoSack"), ("most 9 move -", "no NoSack"), ("least 9 cord none", "no NoCord"),
            ("most 6 cord c", "no NoCord"), ("most 5 move s", "no NoSack"), ("most 4 trestle t", "no NoThing"))

    def test_a_day_first_but_where_a_number_stands_ahead_of_it(self):
        self.check(
            desk_of(*STACK), ("enter 0 lift A", "no BadDay"), ("correct 9 0 lift A", "no NoEntry"),
            ("correct 9 1 lift A", "no NoEntry"), ("correct 1 0 lift A", "no BadDay"),
            ("least 0 weight none 99", "no BadDay"), ("most 10000 weight plank 99", "no BadDay"),
            ("most 0 move none", "no BadDay"), ("least 0 cord none", "no BadDay"),
            ("most -5 trestle none", "no BadDay"), ("most 9 weight none 99", "no NoThing"))

    def test_lines_of_none_of_these_forms(self):
        desk = desk_of(*STACK)
        page = desk.say("page")
        for line in (
                "", " ", "fly", "Enter 1 lift a", "PAGE", "page ", " page", "page 1", "page\n", "back 1", "back ",
                "again again", "enter", "enter 1", "enter 1 ", "enter 1 lift", "enter 1 lift ", "enter 1 lift a b",
                "enter lift a", "enter 1 fly a", "enter  1 lift a", "enter 1  lift a", "enter 1 lift  a",
                "enter 1 lift a ", "enter 1 1 lift a", "enter one lift a", "enter 01 lift a", "enter +1 lift a",
                "enter -0 lift a", "enter 1.0 lift a", "enter 10000000000 lift a", "enter -10000000000 lift a",
                "enter 1 Lift a", "enter 1 along a", "enter 1 along a 1 1", "enter 1 along a 01", "enter 1 along a -",
                "enter 1 along a +1", "enter 1 along a 10000000000", "enter 1 along a -10000000000",
                "enter 1 along a b", "enter 1 cord c  b 1", "enter 1 cord c b 1", "enter 1 cord c - b -",
                "enter 1 cord c - b", "enter 1 board b 1 0 9", "enter 1 board b 1 0 9 1 1", "enter 1 board 1 0 9 1",
                "enter 1 weight plank 1", "strike", "strike ", "strike a", "strike 1 2", "strike 01", "strike -",
                "strike 1 ", "strike  1", "strike 10000000000", "strike \u0661", "strike 1\n", "correct", "correct 1",
                "correct 1 1", "correct 1 lift a", "correct 1 1 lift", "correct 1 1 fly a", "correct 1 1 lift a a",
                "correct one 1 lift a", "correct 1 one lift a", "correct 1 1 1 lift a", "word", "word a", "word 1 1",
                "word 00", "stands", "stands ", "stands 1 1", "stands a", "stands 007", "draw", "draw a", "draw 1 1",
                "draw 1 ", "least", "least 1", "least 1 ", "least 1 weight", "least 1 weight plank",
                "least 1 weight plank a", "least 1 weight plank 01", "least 1 weight plank 1 1",
                "least 1 weight plank -0", "least 1 weight  1", "least 1 weight plank 10000000000",
                "least weight plank 1", "least 1 board plank", "least 1 move", "least 1 move ", "least 1 move s 1",
                "most 1 move s plank 1", "most 1 trestle", "most 1 trestle t 1", "most 1 trestle t 1 0 9",
                "most 1 cord", "most 1 cord c - plank 1", "most 1 cord  ", "most 1 sack s", "most 1 1 cord c",
                "most one cord c", "most", "any 1 cord c", "diary", "say page", "next 1", "no NoText",
                "edge 1 cord c", "yard 1"):
            self.assertEqual(desk.say(line), "no NoText", line)
            self.assertIsNone(LINES.fullmatch(line), line)
            self.assertEqual(desk.say("page"), page)

    def test_such_a_line_is_refused_ahead_of_all_else(self):
        self.check(
            desk_of(*STACK), ("enter 0 lift A a", "no NoText"), ("enter 0 fly A", "no NoText"),
            ("enter 0 along A 01", "no NoText"), ("correct 99 0 lift", "no NoText"),
            ("correct 99 0 along A 10000000000", "no NoText"), ("strike 99 1", "no NoText"),
            ("least 0 weight none 01", "no NoText"), ("most 10000 move none 1", "no NoText"),
            ("most 0 fly none", "no NoText"), ("draw 0 ", "no NoText"), ("stands 0 1", "no NoText"),
            ("word 99 1", "no NoText"), ("again 1", "no NoText"))

    def test_a_number_of_ten_figures_is_well_written(self):
        self.check(
            Desk(), ("enter 1 along a 9999999999", "1"), ("enter 1 along a -9999999999", "2"),
            ("enter 9999999999 lift a", "no BadDay"), ("strike 9999999999", "no NoEntry"),
            ("strike -9999999999", "no NoEntry"), ("stands -9999999999", "no BadDay"), ("word 1", "void"),
            ("page", "next 3\n1 1 along a 9999999999\n2 1 along a -9999999999\n"))

    def test_a_refused_line_changes_nothing(self):
        desk = desk_of(*STACK, "back")
        for line in ("enter 0 lift a", "enter 1 lift A", "strike 77", "correct 1 0 lift a", "correct 1 1 lift A", "fly",
                     "most 9 move none", "word 77", "stands 1", "draw 9", "page", "least 9 weight plank 1"):
            desk.say(line)
        self.assertEqual(desk.say("again"), "done")
        self.assertEqual(desk.diary().rows()[-1], (5, 8, ("lift", "none")))


class DiaryOfADeskTest(unittest.TestCase):
    def test_a_told_diary_that_is_changed(self):
        desk = desk_of(*STACK)
        page = desk.say("page")
        told = desk.diary()
        self.assertIs(type(told), Diary)
        told.strike(1)
        told.enter(1, ("lift", "a"))
        self.assertEqual(desk.say("page"), page)
        other = desk.diary()
        while ask(other.back) is None:
            pass
        self.assertEqual(desk.say("page"), page)
        self.assertEqual(desk.say("again"), "no NothingThere")

    def test_it_is_a_twin(self):
        desk = desk_of(*STACK, "strike 2", "back", "back")
        told = desk.diary()
        self.assertEqual(told.coming(), 5)
        told.again()
        told.again()
        self.assertEqual([row[0] for row in told.rows()], [1, 3, 4, 5])
        self.assertEqual(ask(told.again), ("no", "NothingThere"))
        for turn in range(6):
            told.back()
        self.assertEqual(state_of(told), ([], 1))

    def test_a_told_diary_held_over_further_lines(self):
        desk = desk_of(*STACK)
        told = desk.diary()
        state = state_of(told)
        for line in ("strike 1", "enter 1 lift a", "back", "back", "back"):
            desk.say(line)
        self.assertEqual(state_of(told), state)

    def test_a_fresh_desk(self):
        self.assertEqual(state_of(Desk().diary()), ([], 1))
        first, second = desk_of(*STACK), Desk()
        self.assertEqual(second.say("page"), "next 1\n")
        self.assertEqual(first.diary().coming(), 6)

    def test_its_page_is_read_back(self):
        desk = desk_of(*STACK, "strike 3")
        self.assertEqual(state_of(read(desk.say("page"))), state_of(desk.diary()))


def any_line(chance, own):
    """A line of any form; now and then with a sign or a word wrong."""
    form = chance.choice(["doing"] * 6 + ["word", "stands", "draw", "page", "edge", "edge"])
    if form == "doing":
        line = line_of(*any_doing(chance, own, "abcdefgh", days=(1, 2, 3, 4)))
    elif form == "page":
        line = "page"
    elif form == "edge":
        day = chance.choice([1, 2, 3, 4, 9999, 9999, 0])
        yard = made_of(own.model(day)[0].lists())
        anything = [("move", "a"), ("weight", "b", 3), ("cord", "a"), ("trestle", "c")]
        asked = chance.choice(all_asked(yard, chance) + anything)
        line = line_of(chance.choice(["least", "most"]), day, asked)
    else:
        line = line_of(form, chance.choice([1, 2, 3, 4, 9999, 0, own.coming(), 10000]))
    if chance.random() < 0.15:
        words = line.split(" ")
        at = chance.randrange(len(words) + 1)
        bent = chance.choice([[], [""], ["1"], ["a"], ["-"], ["01"], ["10000000000"]])
        words[at:at + chance.choice([0, 1, 1])] = bent
        line = " ".join(words)
    return line


class ManyLinesTest(unittest.TestCase):
    def test_two_desks_by_turns(self):
        seen = set()
        for seed in range(30):
            chance = random.Random(seed)
            pairs = [(Desk(), OwnDiary()), (Desk(), OwnDiary())]
            for line in STANDING if seed % 2 else ():
                self.assertEqual(pairs[0][0].say(line), own_answer(pairs[0][1], line))
            for turn in range(120):
                desk, own = chance.choice(pairs)
                line = any_line(chance, own)
                answer = desk.say(line)
                self.assertEqual(answer, own_answer(own, line), line)
                seen.add(answer if answer.startswith("no ") else answer.split(" ")[0])
                for other, other_own in pairs:
                    self.assertEqual(state_of(other.diary()), state_of(other_own))
        for answer in ("done", "void", "yes", "no", "never", "any", "none", "0/1", "no NoText", "no BadDay",
                       "no BadName", "no NoEntry", "no NothingThere", "no NoThing", "no NoSack", "no NoCord", "no BadPlace"):
            self.assertIn(answer, seen)

    def test_stacks_entered_line_by_line(self):
        for seed in range(60):
            chance = random.Random(seed)
            desk, own = Desk(), OwnDiary()
            for at, deed in enumerate(stack_deeds(chance), start=1):
                line = line_of("enter", at, deed)
                self.assertEqual(desk.say(line), str(at))
                own_answer(own, line)
            yard = made_of(own.model(9999)[0].lists())
            self.assertEqual(lists(desk.diary().yard(9999)), lists(yard))
            for asked in all_asked(yard, chance):
                for way in ("least", "most"):
                    line = line_of(way, 9999, asked)
                    self.assertEqual(desk.say(line), own_answer(own, line), line)
            for line in ("stands 9999", "draw 9999", f"stands {at // 2 + 1}", f"draw {at // 2 + 1}", "page"):
                self.assertEqual(desk.say(line), own_answer(own, line), line)

    def test_each_far_deed(self):
        desk, own = Desk(), OwnDiary()
        for deed in FAR_DEEDS:
            line = line_of("enter", 3, deed)
            self.assertEqual(desk.say(line), own_answer(own, line))
        self.assertEqual(desk.say("page"), own.page())


if __name__ == "__main__":
    unittest.main()
