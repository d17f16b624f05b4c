"""Boards alone, and a yard that stands just where each of its groups stands alone ([15])."""

import itertools
import random
import unittest

from dunnage.apart import alone, groups
from dunnage.seek import edge, stands
from dunnage.touch import ends, weights
from dunnage.yard import Yard
from tests.helpers import (
    BAD_NAMES, all_asked, any_deed, any_stack, ask, follow, lists, made_of, model_of, own_alone, own_ends, worth,
    yard_of,
)

DEEDS = [
    ("trestle", "t", 1, 0, 9), ("trestle", "u", 1, 20, 29), ("board", "a", 2, 0, 9, 5), ("board", "b", 3, 0, 9, 6),
    ("board", "c", 4, 0, 9, 7), ("board", "d", 2, 20, 29, 8), ("sack", "s", "a", 1, 1), ("sack", "r", "b", 2, 2),
    ("sack", "q", "b", 3, 3), ("sack", "p", "d", 21, 4), ("cord", "k", "c", "a", 4), ("cord", "l", "", "b", 5),
    ("cord", "m", "b", "a", 6), ("cord", "n", "", "d", 25),
]


def told(yard, asked, way):
    """The amount at an edge, or `never`, or `any`."""
    answer = edge(yard, asked, way)
    return worth(answer[1]) if answer[0] == "edge" else answer[0]


def does_stand(yard):
    return stands(yard)[0] == "stands"


def choices(chance, names):
    """Lists of some of the names, in any order, some of them twice."""
    chosen = [[], list(names), list(names)[::-1], list(names) * 2, *[[name] for name in names]]
    for turn in range(4):
        chosen.append([chance.choice(names) for at in range(chance.randint(1, 7))] if names else [])
    return chosen


class AloneTest(unittest.TestCase):
    def test_all_lists_of_names(self):
        yard = yard_of(*DEEDS)
        before = lists(yard)
        for count in range(5):
            for names in itertools.product("abcd", repeat=count):
                handed = list(names)
                other = alone(yard, handed)
                self.assertEqual(lists(other), own_alone(before, names))
                self.assertEqual(handed, list(names))
                self.assertEqual(lists(yard), before)
                self.assertIs(type(other), Yard)

    def test_its_cords(self):
        yard = yard_of(*DEEDS)
        for names, cords in [([], ""), (["a"], ""), (["b"], "l"), (["c"], ""), (["d"], "n"), (["a", "b"], "lm"),
                             (["c", "a"], "k"), (["b", "c"], "l"), (["a", "b", "c"], "klm"), (["d", "c", "a"], "kn")]:
            self.assertEqual([row[0] for row in alone(yard, names).cords()], list(cords), names)

    def test_its_sacks_and_trestles(self):
        yard = yard_of(*DEEDS)
        for names, sacks in [([], ""), (["a"], "s"), (["b"], "qr"), (["c"], ""), (["a", "d"], "ps")]:
            other = alone(yard, names)
            self.assertEqual([row[0] for row in other.sacks()], list(sacks), names)
            self.assertEqual(other.trestles(), yard.trestles())

    def test_a_yard_without_boards(self):
        self.assertEqual(lists(alone(Yard(), [])), ([], [], [], []))
        yard = yard_of(("trestle", "t", 1, 0, 9))
        self.assertEqual(lists(alone(yard, [])), lists(yard))
        self.assertEqual(ask(alone, yard, ["t"]), ("no", "NoThing"))
        self.assertEqual(ask(alone, Yard(), ["a"]), ("no", "NoThing"))

    def test_names_of_no_board(self):
        yard = yard_of(*DEEDS)
        before = lists(yard)
        for name in ["t", "u", "s", "k", "l", "none", "z", *BAD_NAMES]:
            for names in ([name], ["a", name], [name, "a"], ["a", "b", "c", "d", name], ["a", "a", name, "b"]):
                handed = list(names)
                self.assertEqual(ask(alone, yard, handed), ("no", "NoThing"), names)
                self.assertEqual(handed, names)
                self.assertEqual(lists(yard), before)

    def test_a_board_that_is_gone(self):
        yard = yard_of(*DEEDS)
        other = alone(yard, ["a", "b"])
        self.assertEqual(ask(alone, other, ["c"]), ("no", "NoThing"))
        self.assertEqual(lists(alone(other, ["b"])), lists(alone(yard, ["b"])))

    def test_the_handed_list_is_not_kept(self):
        yard = yard_of(*DEEDS)
        names = ["a", "b"]
        other = alone(yard, names)
        was = lists(other)
        names.clear()
        self.assertEqual(lists(other), was)
        names.extend(["c", "d", "nothing"])
        self.assertEqual(lists(other), was)

    def test_each_goes_its_own_way(self):
        for seed in range(40):
            chance = random.Random(seed)
            yard = any_stack(chance, boards=6, cords=4)
            names = chance.choice(choices(chance, [row[0] for row in yard.boards()]))
            pairs = [(yard, model_of(lists(yard)))]
            for taken in (names, names[:1], []):
                pairs.append((alone(yard, taken), model_of(own_alone(lists(yard), taken))))
            for turn in range(60):
                one, model = chance.choice(pairs)
                follow(self, one, model, any_deed(chance, model, "abcdefghijklmnopqrstuvwxyz"))
                for other, other_model in pairs:
                    self.assertEqual(lists(other), other_model.lists())

    def test_free_names_and_room(self):
        yard = yard_of(*DEEDS)
        other = alone(yard, ["a"])
        for deed in [("board", "b", 3, 0, 9, 1), ("board", "t", 9, 0, 9, 1), ("sack", "q", "a", 0, 1),
                     ("cord", "l", "", "a", 0), ("cut", "k"), ("along", "a", 3)]:
            fresh = made_of(own_alone(lists(yard), ["a"]))
            self.assertEqual(ask(other.twin().do, deed), ask(fresh.do, deed), deed)

    def test_asked_as_a_yard_just_made(self):
        for seed in range(60):
            chance = random.Random(seed)
            yard = any_stack(chance, boards=5, cords=3)
            names = chance.choice(choices(chance, [row[0] for row in yard.boards()]))
            other, fresh = alone(yard, names), made_of(own_alone(lists(yard), names))
            self.assertEqual(lists(other), lists(fresh))
            self.assertEqual(ends(other), own_ends(fresh))
            self.assertEqual(weights(other), weights(fresh))
            self.assertEqual(groups(other), groups(fresh))
            self.assertEqual(does_stand(other), does_stand(fresh))
            for asked in all_asked(fresh, chance):
                for way in ("least", "most"):
                    self.assertEqual(told(other, asked, way), told(fresh, asked, way), asked)


class GroupsAloneTest(unittest.TestCase):
    def yards(self, count, **most):
        for seed in range(count):
            chance = random.Random(seed)
            yard = any_stack(chance, **most)
            yield chance, yard, {tuple(group): alone(yard, group) for group in groups(yard)}

    def test_just_where_each_group_stands(self):
        seen = set()
        for chance, yard, apart in self.yards(400, boards=6, trestles=5, cords=4):
            standing = [does_stand(one) for one in apart.values()]
            self.assertIs(does_stand(yard), all(standing))
            seen.add((min(len(apart), 3), all(standing), any(standing)))
        wanted = {(2, True, True), (2, False, True), (2, False, False), (3, True, True), (3, False, True)}
        self.assertTrue(wanted <= seen, seen)

    def test_two_groups_by_hand(self):
        yard = yard_of(("trestle", "t", 1, 0, 9), ("board", "a", 2, 0, 9, 5), ("board", "b", 2, 9, 18, 5))
        self.assertEqual(groups(yard), [["a"], ["b"]])
        self.assertEqual(stands(yard)[0], "falls")
        self.assertEqual(stands(alone(yard, ["a"]))[0], "stands")
        self.assertEqual(stands(alone(yard, ["b"]))[0], "falls")
        yard.do(("cord", "k", "", "b", 18))
        self.assertEqual(stands(yard)[0], "stands")
        self.assertEqual(stands(alone(yard, ["b"]))[0], "stands")

    def test_what_a_group_bears_is_the_same_alone(self):
        several = 0
        for chance, yard, apart in self.yards(250, boards=6, trestles=5, cords=3):
            several += len(apart) > 1
            for group, one in apart.items():
                others = [other for key, other in apart.items() if key != group]
                free = all(does_stand(other) for other in others)
                for asked in all_asked(one, chance):
                    # A trestle bears all groups together; the others' boards and cords bear nothing of this one.
                    if asked[0] == "trestle":
                        continue
                    for way in ("least", "most"):
                        self.assertEqual(told(yard, asked, way), told(one, asked, way) if free else "never", asked)
        self.assertGreater(several, 60)

    def test_a_trestle_bears_the_groups_together(self):
        for chance, yard, apart in self.yards(120, boards=6, trestles=4):
            for row in yard.trestles():
                for way in ("least", "most"):
                    amounts = [told(one, ("trestle", row[0]), way) for one in apart.values()]
                    whole = told(yard, ("trestle", row[0]), way)
                    if "never" in amounts:
                        self.assertEqual(whole, "never")
                    elif "any" in amounts:
                        self.assertEqual(whole, "any")
                    else:
                        self.assertEqual(whole, sum(amounts))


if __name__ == "__main__":
    unittest.main()
