"""One board by the lever's rule, and towers, in plain fractions ([9] to [14])."""

import random
import unittest
from fractions import Fraction

from dunnage.seek import stands
from tests.helpers import worth, yard_of
from tests.test_edges import check_edge
from tests.test_stands import check_stands


def heft(rows):
    """The weight of rows (place, weight) together, and the place at which they are in balance."""
    together = sum(weight for place, weight in rows)
    return together, sum(Fraction(place) * weight for place, weight in rows) / together


def both_edges(test, yard, asked):
    return check_edge(test, yard, asked, "least"), check_edge(test, yard, asked, "most")


class Case:
    """One board with sacks, held up at one or two spots."""

    def __init__(self, chance, props):
        self.left = chance.randint(-30, 10)
        self.right = self.left + chance.randint(2, 30)
        self.spots = sorted(chance.sample(range(self.left, self.right + 1), 2)) if props == 2 else []
        self.spots = self.spots or [chance.randint(self.left, self.right)]
        self.rows = [(Fraction(self.left + self.right, 2), chance.randint(1, 20))]
        self.deeds = [("board", "b", 5, self.left, self.right, self.rows[0][1])]
        for name in "pqr"[:chance.randint(0, 3)]:
            place, weight = chance.randint(self.left, self.right), chance.randint(1, 20)
            self.rows.append((place, weight))
            self.deeds.append(("sack", name, "b", place, weight))
        if chance.random() < 0.3:
            self.balance(chance)

    def balance(self, chance):
        """Put one more sack so that it may be just in balance about the first spot."""
        together, centre = heft(self.rows)
        turning = together * (self.spots[0] - centre)
        for place in range(self.left, self.right + 1):
            arm = place - self.spots[0]
            if arm and turning % arm == 0 and turning / arm >= 1:
                self.rows.append((place, int(turning / arm)))
                self.deeds.append(("sack", "s", "b", place, int(turning / arm)))
                return


class LeverTest(unittest.TestCase):
    def on_trestles(self, case):
        return yard_of(*case.deeds, *[
            ("trestle", name, 4, place, place) for name, place in zip(("t", "u"), case.spots)])

    def on_one_long_trestle(self, case):
        return yard_of(*case.deeds, ("trestle", "t", 4, case.spots[0], case.spots[-1]))

    def by_cords(self, case):
        return yard_of(*case.deeds, *[
            ("cord", name, "", "b", place) for name, place in zip(("t", "u"), case.spots)])

    def cases(self, props, count=150):
        for seed in range(count):
            chance = random.Random(seed)
            yield chance, Case(chance, props)

    def standing(self, case, *builds):
        together, centre = heft(case.rows)
        answer = case.spots[0] <= centre <= case.spots[-1]
        for build in builds:
            self.assertIs(check_stands(self, build(case)), answer)
        return answer

    def test_one_prop(self):
        told = []
        for chance, case in self.cases(1):
            told.append(self.standing(case, self.on_trestles, self.by_cords))
        self.assertIn(True, told)
        self.assertIn(False, told)

    def test_two_props(self):
        told = []
        for chance, case in self.cases(2):
            told.append(self.standing(case, self.on_trestles, self.by_cords, self.on_one_long_trestle))
            if told[-1]:
                together, centre = heft(case.rows)
                low, high = case.spots
                second = together * (centre - low) / (high - low)
                for build in (self.on_trestles, self.by_cords, self.on_one_long_trestle):
                    answer = stands(build(case))
                    self.assertEqual([worth(row[4]) for row in answer[1]], [together - second, second])
        self.assertGreater(told.count(True), 20)
        self.assertGreater(told.count(False), 20)

    def test_what_each_prop_bears(self):
        for props in (1, 2):
            for chance, case in self.cases(props, 80):
                together, centre = heft(case.rows)
                low, high = case.spots[0], case.spots[-1]
                shares = [together]
                if props == 2:
                    shares = [together * (high - centre) / (high - low), together * (centre - low) / (high - low)]
                for name, share in zip(("t", "u"), shares):
                    answer = share if low <= centre <= high else "never"
                    for way in ("least", "most"):
                        self.assertEqual(check_edge(self, self.on_trestles(case), ("trestle", name), way), answer)
                        self.assertEqual(check_edge(self, self.by_cords(case), ("cord", name), way), answer)
                answer = together if low <= centre <= high else "never"
                self.assertEqual(check_edge(self, self.on_one_long_trestle(case), ("trestle", "t"), "most"), answer)

    def weight_edges(self, case, place):
        """The least and the most of a weight at a place, from the turning about both props."""
        together, centre = heft(case.rows)
        least, most = Fraction(0), None
        # Of each prop: how much the load leans beyond it, and how much one more weight does.
        for lean, more in [(together * (centre - case.spots[-1]), place - case.spots[-1]),
                           (together * (case.spots[0] - centre), case.spots[0] - place)]:
            if more > 0:
                most = -lean / more if most is None else min(most, -lean / more)
            elif more < 0:
                least = max(least, lean / -more)
            elif lean > 0:
                return "never", "never"
        if most is not None and most < least:
            return "never", "never"
        return least, "any" if most is None else most

    def test_one_more_weight(self):
        seen = set()
        for props in (1, 2):
            for chance, case in self.cases(props, 100):
                for place in {case.left, case.right, case.spots[0], chance.randint(case.left, case.right)}:
                    answer = self.weight_edges(case, place)
                    seen |= {answer[1] if answer[1] in ("any", "never") else "most", answer[0] == 0}
                    for build in (self.on_trestles, self.by_cords):
                        self.assertEqual(both_edges(self, build(case), ("weight", "b", place)), answer)
        self.assertEqual(seen, {"any", "never", "most", True, False})

    def test_a_sack_moved(self):
        seen = set()
        for props in (1, 2):
            for chance, case in self.cases(props, 100):
                for at, (place, weight) in enumerate(case.rows):
                    if at == 0:
                        continue
                    name = case.deeds[at][1]
                    together, centre = heft(case.rows)
                    # The place at which the whole load is in balance goes with the sack, by weight / together.
                    least = max(case.left, place + (case.spots[0] - centre) * together / weight)
                    most = min(case.right, place + (case.spots[-1] - centre) * together / weight)
                    answer = (least, most) if least <= most else ("never", "never")
                    seen.add(answer[0] == "never")
                    for build in (self.on_trestles, self.by_cords):
                        self.assertEqual(both_edges(self, build(case), ("move", name)), answer)
        self.assertEqual(seen, {True, False})


class TowerTest(unittest.TestCase):
    def tower(self, chance, height):
        """Boards, each on the one beneath, the lowest on a trestle; their rows, and the trestle."""
        trestle = (0, chance.randint(2, 12))
        rows = []
        under = trestle
        lean = chance.choice([1, 2, 6])
        for at in range(height):
            middle = under[0] + under[1] + chance.randint(-lean, lean)
            half = chance.randint(2, 14)
            left, right = (middle - half) // 2, (middle + half) // 2
            left, right = min(left, under[1]), max(right, under[0], min(left, under[1]) + 1)
            rows.append((left, right, chance.randint(1, 9)))
            under = (left, right)
        return trestle, rows

    def build(self, trestle, rows):
        names = "fbdace"
        return yard_of(("trestle", "t", 1, *trestle), *[
            ("board", names[at], at + 2, left, right, weight) for at, (left, right, weight) in enumerate(rows)])

    def leans(self, trestle, rows):
        """For each board: (low, high, centre) of where it lies and what it and all above it weigh."""
        told = []
        for at, row in enumerate(rows):
            under = rows[at - 1] if at else trestle
            together, centre = heft([(Fraction(left + right, 2), weight) for left, right, weight in rows[at:]])
            told.append((max(row[0], under[0]), min(row[1], under[1]), together, centre))
        return told

    def test_towers_of_two_to_six(self):
        for height in range(2, 7):
            told = []
            for seed in range(120):
                trestle, rows = self.tower(random.Random(seed), height)
                answer = all(low <= centre <= high for low, high, together, centre in self.leans(trestle, rows))
                told.append(check_stands(self, self.build(trestle, rows)))
                self.assertIs(told[-1], answer, (trestle, rows))
            self.assertGreater(told.count(True), 5, height)
            self.assertGreater(told.count(False), 5, height)

    def test_what_the_trestle_bears(self):
        for seed in range(60):
            trestle, rows = self.tower(random.Random(seed), 2 + seed % 5)
            yard = self.build(trestle, rows)
            answer = sum(row[2] for row in rows) if stands(yard)[0] == "stands" else "never"
            for way in ("least", "most"):
                self.assertEqual(check_edge(self, yard, ("trestle", "t"), way), answer)

    def test_one_more_weight_on_top(self):
        seen = set()
        for seed in range(150):
            chance = random.Random(seed)
            trestle, rows = self.tower(chance, 2 + seed % 5)
            place = chance.randint(*rows[-1][:2])
            least, most = Fraction(0), None
            never = False
            for low, high, together, centre in self.leans(trestle, rows):
                for lean, more in [(together * (centre - high), place - high),
                                   (together * (low - centre), low - place)]:
                    if more > 0:
                        most = -lean / more if most is None else min(most, -lean / more)
                    elif more < 0:
                        least = max(least, lean / -more)
                    elif lean > 0:
                        never = True
            if most is not None and most < least:
                never = True
            answer = ("never", "never") if never else (least, "any" if most is None else most)
            seen.add(answer[1] if isinstance(answer[1], str) else "most")
            yard = self.build(trestle, rows)
            asked = ("weight", "fbdace"[len(rows) - 1], place)
            self.assertEqual(both_edges(self, yard, asked), answer)
        self.assertEqual(seen, {"any", "never", "most"})

    def test_the_greatest_overhang(self):
        # Boards of one weight and length: the k-th from the top may reach out by half its length taken k times less.
        length = 120
        reach = [0]
        for count in range(1, 6):
            reach.insert(0, reach[0] - length // 2 // count)
        rows = [(left - reach[0], left - reach[0] + length, 7) for left in reach]
        yard = self.build((0, length), rows)
        self.assertTrue(check_stands(self, yard))
        self.assertEqual(check_edge(self, yard, ("weight", "e", rows[-1][1]), "most"), 0)
        rows[-1] = (rows[-1][0] + 1, rows[-1][1] + 1, 7)
        self.assertFalse(check_stands(self, self.build((0, length), rows)))


if __name__ == "__main__":
    unittest.main()
