"""Papers that no more, no less and none can be, and pushes by which any amount more can be ([11] to [13])."""

import random
import unittest
from fractions import Fraction

from dunnage.papers import bars, grows, shows
from dunnage.seek import edge
from dunnage.yard import Yard
from tests.helpers import all_asked, any_stack, as_part, lists, own_grows, own_judge, worth, yard_of

FORMS = ("weight", "move", "trestle", "cord")
NOUGHT = (0, 1)


def see_saw():
    """A board of weight 10 with its middle at 5, on two trestles at 2 and 8, a sack of 4 at 5."""
    return yard_of(
        ("trestle", "l", 1, 2, 2), ("trestle", "r", 1, 8, 8), ("board", "b", 2, 0, 10, 10), ("sack", "s", "b", 5, 4))


def hung():
    """A board of weight 10 with its middle at 5, on a trestle at 2, hung by a cord at 8."""
    return yard_of(("trestle", "l", 1, 2, 2), ("board", "b", 2, 0, 10, 10), ("cord", "c", "", "b", 8))


def overhung():
    """A board of weight 10 whose middle is 3 beyond its trestle's right."""
    return yard_of(("trestle", "l", 1, 0, 2), ("board", "b", 2, 0, 10, 10), ("sack", "s", "b", 0, 6))


def moved(rise, tilt):
    return [("b", as_part(rise), as_part(tilt))]


class ShowsByHandTest(unittest.TestCase):
    def test_weight_the_most(self):
        # About the right trestle: the place 10 falls by 1, the middle and the sack rise by 3/2.
        yard = see_saw()
        self.assertEqual(shows(yard, ("weight", "b", 10), "most", moved(4, Fraction(-1, 2)), NOUGHT), (21, 1))
        self.assertEqual(shows(yard, ("weight", "b", 10), "most", moved(8, -1), NOUGHT), (42, 1))
        self.assertIsNone(shows(yard, ("weight", "b", 10), "most", moved(2, Fraction(-1, 4)), NOUGHT))
        self.assertIsNone(shows(yard, ("weight", "b", 9), "most", moved(4, Fraction(-1, 2)), NOUGHT))
        self.assertIsNone(shows(yard, ("weight", "b", 10), "most", moved(3, Fraction(-1, 2)), NOUGHT))

    def test_weight_the_least(self):
        # Without a counterweight the board comes down; about the trestle's right its middle falls, the place 0 rises.
        yard = overhung()
        yard.do(("lift", "s"))
        self.assertEqual(shows(yard, ("weight", "b", 0), "least", moved(1, Fraction(-1, 2)), NOUGHT), (15, 1))
        self.assertEqual(shows(yard, ("weight", "b", 0), "least", moved(0, 0), NOUGHT), (0, 1))
        self.assertEqual(shows(yard, ("weight", "b", 0), "least", moved(1, 0), NOUGHT), (-10, 1))
        self.assertIsNone(shows(yard, ("weight", "b", 0), "least", moved(2, -1), NOUGHT))

    def test_move(self):
        yard = overhung()
        yard.do(("sack", "t", "b", 0, 9))
        # About the trestle's right the board turns by 30; at its left the sack turns against it by 12, the other by 18.
        asked = ("move", "s")
        tilt = Fraction(-1, 6)
        self.assertEqual(shows(yard, asked, "most", moved(-2 * tilt, tilt), NOUGHT), (0, 1))
        self.assertEqual(shows(yard, asked, "least", moved(0, 0), NOUGHT), (0, 1))
        # A stop of one pays for the tilt: the sack is kept from going beyond its board's right.
        self.assertEqual(shows(yard, asked, "most", moved(0, 0), (1, 1)), (10, 1))
        self.assertEqual(shows(yard, asked, "most", moved(0, 0), (3, 2)), (15, 1))
        self.assertIsNone(shows(yard, asked, "most", moved(0, 0), (1, 2)))
        self.assertIsNone(shows(yard, asked, "most", moved(0, 0), NOUGHT))
        self.assertEqual(shows(yard, asked, "least", moved(0, 0), (1, 2)), (-5, 1))
        self.assertIsNone(shows(yard, asked, "least", moved(0, 0), (-1, 2)))
        self.assertEqual(shows(yard, asked, "least", moved(0, Fraction(1, 6)), NOUGHT), (-25, 3))
        self.assertIsNone(shows(yard, asked, "least", moved(0, Fraction(1, 5)), NOUGHT))
        self.assertEqual(shows(yard, asked, "least", moved(0, Fraction(1, 5)), (1, 5)), (-12, 1))

    def test_move_counts_from_its_boards_left(self):
        yard = yard_of(("trestle", "l", 1, 7, 7), ("board", "b", 2, 4, 8, 3), ("sack", "s", "b", 8, 3))
        # In balance about 7 the sack stands as far right of it as the middle is left of it.
        tilt = Fraction(-1, 3)
        self.assertEqual(shows(yard, ("move", "s"), "most", moved(-7 * tilt, tilt), NOUGHT), (8, 1))
        self.assertEqual(shows(yard, ("move", "s"), "least", moved(7 * tilt, -tilt), NOUGHT), (8, 1))

    def test_trestle_and_cord(self):
        yard = hung()
        # The trestle bears half, the cord the other half.
        left, right = moved(Fraction(8, 6), Fraction(-1, 6)), moved(Fraction(-2, 6), Fraction(1, 6))
        self.assertEqual(shows(yard, ("trestle", "l"), "most", left, NOUGHT), (5, 1))
        self.assertEqual(shows(yard, ("cord", "c"), "most", right, NOUGHT), (5, 1))
        self.assertIsNone(shows(yard, ("trestle", "l"), "most", right, NOUGHT))
        self.assertIsNone(shows(yard, ("cord", "c"), "most", left, NOUGHT))
        left, right = moved(Fraction(-8, 6), Fraction(1, 6)), moved(Fraction(2, 6), Fraction(-1, 6))
        self.assertEqual(shows(yard, ("trestle", "l"), "least", left, NOUGHT), (5, 1))
        self.assertEqual(shows(yard, ("cord", "c"), "least", right, NOUGHT), (5, 1))
        self.assertIsNone(shows(yard, ("trestle", "l"), "least", right, NOUGHT))
        self.assertIsNone(shows(yard, ("cord", "c"), "least", left, NOUGHT))

    def test_a_trestle_above_and_below(self):
        yard = yard_of(("trestle", "t", 2, 0, 0), ("board", "a", 1, 0, 2, 1), ("board", "b", 3, 0, 2, 5))
        motion = [("a", (-1, 1), NOUGHT), ("b", (1, 1), NOUGHT)]
        self.assertEqual(shows(yard, ("trestle", "t"), "most", motion, NOUGHT), (4, 1))
        self.assertIsNone(shows(yard, ("trestle", "t"), "most", [("a", NOUGHT, NOUGHT), motion[1]], NOUGHT))
        self.assertIsNone(shows(yard, ("trestle", "t"), "most", [motion[0], ("b", NOUGHT, NOUGHT)], NOUGHT))

    def test_a_stop_is_nought_but_for_move(self):
        yard = see_saw()
        yard.do(("cord", "c", "", "b", 8))
        for asked in [("weight", "b", 10), ("trestle", "l"), ("cord", "c")]:
            for way in ("most", "least"):
                motion = edge(yard, asked, way)[3]
                self.assertIsNotNone(shows(yard, asked, way, motion, NOUGHT))
                for stop in [(1, 1), (1, 10**40), (-1, 1), (-1, 10**40)]:
                    self.assertIsNone(shows(yard, asked, way, motion, stop))

    def test_wrong_rows(self):
        yard = see_saw()
        yard.do(("board", "d", 3, 0, 10, 1))
        good = [("b", NOUGHT, NOUGHT), ("d", NOUGHT, NOUGHT)]
        self.assertEqual(shows(yard, ("trestle", "l"), "least", good, NOUGHT), (0, 1))
        for motion in [[], good[:1], good[1:], good[::-1], good + good[1:], [good[0], good[0]],
                       [("l", NOUGHT, NOUGHT), *good[1:]], [*good, ("r", NOUGHT, NOUGHT)]]:
            for asked in [("weight", "b", 10), ("move", "s"), ("trestle", "l")]:
                for way in ("most", "least"):
                    self.assertIsNone(shows(yard, asked, way, motion, NOUGHT))
                    self.assertIs(bars(yard, asked, motion, NOUGHT), False)

    def test_trestles_alone(self):
        yard = yard_of(("trestle", "t", 1, 0, 9))
        for way in ("most", "least"):
            self.assertEqual(shows(yard, ("trestle", "t"), way, [], NOUGHT), (0, 1))


class BarsByHandTest(unittest.TestCase):
    def test_weight(self):
        # Beyond the trestle's right another weight helps nothing; at its left it does.
        yard = overhung()
        falling = moved(2, -1)
        self.assertIs(bars(yard, ("weight", "b", 5), falling, NOUGHT), True)
        self.assertIs(bars(yard, ("weight", "b", 2), falling, NOUGHT), True)
        self.assertIs(bars(yard, ("weight", "b", 1), falling, NOUGHT), False)
        self.assertIs(bars(yard, ("weight", "b", 5), falling, (1, 1)), False)
        self.assertIs(bars(yard, ("weight", "b", 5), moved(0, 0), NOUGHT), False)
        self.assertIs(bars(yard, ("weight", "b", 5), moved(1, -1), NOUGHT), False)

    def test_move(self):
        # Even at its board's left the sack of 6 cannot hold the board.
        yard = overhung()
        asked = ("move", "s")
        self.assertIs(bars(yard, asked, moved(2, -1), NOUGHT), True)
        self.assertIs(bars(yard, asked, moved(2, -1), (1, 1)), True)
        self.assertIs(bars(yard, asked, moved(2, -1), (9, 5)), False)
        self.assertIs(bars(yard, asked, moved(2, -1), (-1, 1)), False)
        yard.do(("move", "s", "b", 10))
        self.assertIs(bars(yard, asked, moved(2, -1), NOUGHT), True)

    def test_move_to_the_right(self):
        # Mirrored: the tilt needs the stop, which is 6 times the tilt; then the sack counts as at its board's right.
        yard = yard_of(("trestle", "l", 1, 8, 10), ("board", "b", 2, 0, 10, 10), ("sack", "s", "b", 10, 6))
        asked = ("move", "s")
        self.assertIs(bars(yard, asked, moved(-8, 1), (6, 1)), True)
        self.assertIs(bars(yard, asked, moved(-8, 1), (5, 1)), False)
        self.assertIs(bars(yard, asked, moved(-8, 1), NOUGHT), False)
        self.assertIs(bars(yard, asked, moved(-8, 1), (39, 5)), False)
        self.assertIs(bars(yard, asked, moved(-8, 1), (38, 5)), True)

    def test_trestle_and_cord(self):
        yard = overhung()
        yard.do(("cord", "c", "", "b", 2))
        for asked in [("trestle", "l"), ("cord", "c")]:
            self.assertIs(bars(yard, asked, moved(2, -1), NOUGHT), True)
            self.assertIs(bars(yard, asked, moved(2, -1), (1, 1)), False)
            self.assertIs(bars(yard, asked, moved(0, 0), NOUGHT), False)
            self.assertIs(bars(yard, asked, moved(1, 0), NOUGHT), False)
            self.assertIs(bars(yard, asked, moved(1, -1), NOUGHT), False)

    def test_a_yard_that_stands(self):
        yard = hung()
        for asked in [("weight", "b", 5), ("trestle", "l"), ("cord", "c")]:
            for motion in [moved(0, 0), moved(1, 0), moved(-1, 0), moved(2, -1), moved(-2, 1), moved(8, -1)]:
                self.assertIs(bars(yard, asked, motion, NOUGHT), False)


class GrowsByHandTest(unittest.TestCase):
    def test_weight(self):
        yard = see_saw()
        half = [("", "b", "l", 2, (1, 2)), ("", "b", "r", 8, (1, 2))]
        self.assertIs(grows(yard, ("weight", "b", 5), half), True)
        self.assertIs(grows(yard, ("weight", "b", 4), half), False)
        self.assertIs(grows(yard, ("weight", "b", 5), [(*row[:4], (1, 1)) for row in half]), False)
        self.assertIs(grows(yard, ("weight", "b", 5), [(*row[:4], NOUGHT) for row in half]), False)
        self.assertIs(grows(yard, ("weight", "b", 5), half[::-1]), False)
        self.assertIs(grows(yard, ("weight", "b", 5), half[:1]), False)

    def test_weight_on_one_of_two_boards(self):
        yard = yard_of(("trestle", "t", 1, 0, 9), ("board", "a", 2, 0, 9, 1), ("board", "b", 3, 0, 9, 1))
        pushes = [
            ("", "a", "t", 0, (1, 1)), ("", "a", "t", 9, NOUGHT), ("", "b", "a", 0, NOUGHT), ("", "b", "a", 9, NOUGHT)]
        self.assertIs(grows(yard, ("weight", "a", 0), pushes), True)
        self.assertIs(grows(yard, ("weight", "b", 0), pushes), False)
        pushes[2] = ("", "b", "a", 0, (1, 1))
        self.assertIs(grows(yard, ("weight", "a", 0), pushes), False)
        self.assertIs(grows(yard, ("weight", "b", 0), pushes), True)

    def test_trestle_and_cord(self):
        # A cord straight above the trestle: it pulls up against a trestle above, by any amount.
        yard = yard_of(
            ("trestle", "l", 1, 0, 10), ("board", "b", 2, 0, 10, 10), ("cord", "c", "", "b", 5),
            ("trestle", "u", 3, 5, 5))
        ends = [("", "b", "l", 0), ("", "b", "l", 10), ("", "u", "b", 5), ("c", "", "b", 5)]

        def pushes(*numbers):
            return [(*end, (number, 1)) for end, number in zip(ends, numbers)]

        for numbers, trestle, above, cord in [
                ((0, 0, 1, 1), False, True, True), ((1, 1, 2, 0), True, True, False), ((1, 1, 3, 1), True, True, True),
                ((0, 0, 0, 0), False, False, False), ((1, 1, 2, 1), False, False, False),
                ((1, 0, 1, 0), False, False, False), ((-1, -1, 0, 2), False, False, False)]:
            told = pushes(*numbers)
            self.assertIs(grows(yard, ("trestle", "l"), told), trestle, numbers)
            self.assertIs(grows(yard, ("trestle", "u"), told), above, numbers)
            self.assertIs(grows(yard, ("cord", "c"), told), cord, numbers)

    def test_move(self):
        yard = see_saw()
        for push in [NOUGHT, (1, 2), (1, 1), (7, 1)]:
            self.assertIs(grows(yard, ("move", "s"), [("", "b", "l", 2, push), ("", "b", "r", 8, push)]), False)


class ManyStacksTest(unittest.TestCase):
    """Told papers, and such with one thing changed, by sums of the test's own."""

    def each(self, seeds):
        for seed in seeds:
            chance = random.Random(seed)
            yard = any_stack(chance)
            for asked in all_asked(yard, chance):
                yield chance, yard, asked

    def judged(self, yard, asked, motion, stop):
        """What shows and bars tell, which is what the test's own sums tell."""
        before = lists(yard), list(motion)
        told = []
        for way in ("most", "least"):
            told.append(shows(yard, asked, way, motion, stop))
            self.assertEqual(told[-1], own_judge(yard, asked, way, motion, stop))
        told.append(bars(yard, asked, motion, stop))
        self.assertIs(told[-1], own_judge(yard, asked, "none", motion, stop))
        self.assertEqual((lists(yard), motion), before)
        return told

    def changed(self, chance, yard, motion, stop):
        """Papers with a rise, a tilt or the stop changed, and all of them doubled."""
        by = Fraction(chance.choice([1, -1]), chance.choice([1, 2, 3, 10**20]))
        for at, (name, rise, tilt) in enumerate(motion):
            yield motion[:at] + [(name, as_part(worth(rise) + by), tilt)] + motion[at + 1:], stop
            yield motion[:at] + [(name, rise, as_part(worth(tilt) + by))] + motion[at + 1:], stop
        double = [(name, as_part(2 * worth(rise)), as_part(2 * worth(tilt))) for name, rise, tilt in motion]
        yield double, as_part(2 * worth(stop))
        for other in [(0, 1), (1, 1), (1, 3), (-1, 7), as_part(worth(stop) + by)]:
            yield motion, other

    def test_told_papers_and_changed_ones(self):
        seen = set()
        for chance, yard, asked in self.each(range(70)):
            for way in ("most", "least"):
                answer = edge(yard, asked, way)
                if answer[0] == "any":
                    continue
                motion, stop = answer[-2:]
                papers = [(motion, stop), *self.changed(chance, yard, motion, stop)]
                for some, by in papers:
                    most, least, none = self.judged(yard, asked, some, by)
                    for told_way, told in [("most", most is None), ("least", least is None), ("none", none)]:
                        seen.add((asked[0], told_way, told))
        for form in FORMS:
            for way in ("most", "least", "none"):
                self.assertIn((form, way, True), seen)
                self.assertIn((form, way, False), seen)

    def test_rows_left_out_or_exchanged(self):
        for chance, yard, asked in self.each(range(30)):
            motion = [(row[0], (0, 1), (0, 1)) for row in yard.boards()]
            for some in [motion[1:], motion + motion[:1], motion[::-1], motion + [("none", (0, 1), (0, 1))]]:
                self.judged(yard, asked, some, (0, 1))
                if some != motion:
                    self.assertEqual(self.judged(yard, asked, some, (0, 1)), [None, None, False])

    def test_grows(self):
        seen = set()
        for chance, yard, asked in self.each(range(150)):
            answer = edge(yard, asked, "most")
            if answer[0] == "never":
                continue
            some = [answer[2], answer[3]] if answer[0] == "any" else [answer[2]]
            some.append([(*row[:4], (0, 1)) for row in answer[2]])
            for pushes in list(some):
                for at in range(len(pushes)):
                    some.append(pushes[:at] + [(*pushes[at][:4], as_part(worth(pushes[at][4]) + 1))] + pushes[at + 1:])
                some.append([(*row[:4], as_part(3 * worth(row[4]))) for row in pushes])
                some.append(pushes[1:])
            for pushes in some:
                before = lists(yard), list(pushes)
                told = grows(yard, asked, pushes)
                self.assertIs(told, own_grows(yard, asked, pushes))
                self.assertEqual((lists(yard), pushes), before)
                seen.add((asked[0], told))
        self.assertEqual(seen, {(form, told) for form in FORMS for told in (True, False)} - {("move", True)})

    def test_an_empty_yard_has_nothing_to_ask_for(self):
        self.assertEqual(all_asked(Yard(), random.Random(0)), [])


if __name__ == "__main__":
    unittest.main()
