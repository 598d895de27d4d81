"""What leans on what: promises 19 and 20."""

import random
import unittest

from thingyard.leaning import leaners, ranks, waves


def row(number):
    return ["n" + str(k).zfill(6) for k in range(number)]


def leaning_by_hand(needs):
    # All pairs of a name and one that it leans on, by going on until no pair is new.
    pairs = {(name, needed) for name in needs for needed in needs[name]}
    while True:
        more = {(a, d) for a, b in pairs for c, d in pairs if b == c} - pairs
        if not more:
            return pairs
        pairs |= more


def by_chance(chance, number):
    names = [chance.choice("abcdefgh") + str(k) for k in range(number)]
    chance.shuffle(names)
    needs = {}
    for name in names:
        if chance.random() < 0.8:
            needs[name] = [chance.choice(names) for _ in range(chance.choice([0, 1, 1, 2, 3]))]
    return names, needs


class LeanersTest(unittest.TestCase):

    def leans(self, needs, names, answer):
        with self.subTest(names=names[:3]):
            before = {name: list(needed) for name, needed in needs.items()}
            given = list(names)
            found = leaners(needs, names)
            self.assertEqual(found, answer)
            self.assertIs(type(found), list)
            self.assertEqual(needs, before)
            self.assertEqual(names, given)

    def test_no_needs_and_no_names(self):
        self.leans({}, [], [])
        self.leans({}, ["a"], [])
        self.leans({"a": []}, ["a"], [])
        self.leans({"a": ["b"]}, [], [])
        self.leans({"a": ["b"], "c": []}, ["c"], [])
        self.leans({"a": ["b"]}, ["a"], [])

    def test_one_name(self):
        needs = {"d": ["c"], "c": ["b"], "b": ["a"], "x": ["y"]}
        self.leans(needs, ["a"], ["b", "c", "d"])
        self.leans(needs, ["b"], ["c", "d"])
        self.leans(needs, ["d"], [])
        self.leans(needs, ["y"], ["x"])
        self.leans(needs, ["z"], [])

    def test_several_ways(self):
        needs = {"d": ["b", "c"], "b": ["a"], "c": ["a", "a"], "e": ["d", "a"]}
        self.leans(needs, ["a"], ["b", "c", "d", "e"])
        self.leans(needs, ["c"], ["d", "e"])

    def test_several_names(self):
        needs = {"b": ["a"], "d": ["c"], "e": ["b", "d"]}
        self.leans(needs, ["a", "c"], ["b", "d", "e"])
        self.leans(needs, ["c", "a", "c"], ["b", "d", "e"])
        self.leans(needs, ["a", "z"], ["b", "e"])

    def test_names_that_lean_on_one_another(self):
        needs = {"c": ["b"], "b": ["a"]}
        self.leans(needs, ["a", "b"], ["b", "c"])
        self.leans(needs, ["b", "c"], ["c"])
        self.leans(needs, ["a", "c"], ["b", "c"])

    def test_names_that_lean_on_themselves(self):
        self.leans({"a": ["a"]}, ["a"], ["a"])
        self.leans({"a": ["b"], "b": ["a"]}, ["a"], ["a", "b"])
        self.leans({"a": ["b"], "b": ["c"], "c": ["a"], "d": ["b"], "b2": []}, ["c"], ["a", "b", "c", "d"])
        self.leans({"a": ["b"], "b": ["b"], "c": ["a"]}, ["a"], ["c"])

    def test_whatever_texts(self):
        self.leans({"": ["A b\n"], "~": [""], "9": ["~"]}, ["A b\n"], ["", "9", "~"])

    def test_sorted(self):
        self.leans({"z": ["a"], "y": ["a"], "b": ["a"], "B": ["a"], "m": ["z"]}, ["a"], ["B", "b", "m", "y", "z"])

    def test_long_rows(self):
        names = row(5000)
        needs = {name: [below] for name, below in zip(names[1:], names)}
        self.leans(needs, [names[0]], names[1:])
        self.leans(needs, [names[4990]], names[4991:])
        needs[names[0]] = [names[-1]]
        self.leans(needs, [names[7]], names)

    def test_against_all_pairs(self):
        chance = random.Random(19)
        for _ in range(300):
            names, needs = by_chance(chance, chance.randrange(1, 12))
            asked = [chance.choice(names) for _ in range(chance.randrange(0, 4))]
            pairs = leaning_by_hand(needs)
            self.leans(needs, asked, sorted({a for a, b in pairs if b in asked}))

    def test_what_came_back_is_the_askers_own(self):
        needs = {"b": ["a"]}
        found = leaners(needs, ["a"])
        found.append("x")
        self.leans(needs, ["a"], ["b"])
        kept = leaners(needs, ["a"])
        needs["c"] = ["b"]
        self.assertEqual(kept, ["b"])
        self.leans(needs, ["a"], ["b", "c"])

    def test_the_arguments_have_their_names(self):
        self.assertEqual(leaners(needs={"b": ["a"]}, names=["a"]), ["b"])


class RanksTest(unittest.TestCase):

    def ranked(self, needs, answer, told=None):
        with self.subTest(needs=str(needs)[:60]):
            before = {name: list(needed) for name, needed in needs.items()}
            found = ranks(needs)
            self.assertEqual(found, answer)
            self.assertEqual(list(found), sorted(answer))
            self.assertIs(type(found), dict)
            layers = waves(needs)
            greatest = max([rank for rank in answer.values() if rank is not None], default=-1)
            expected = [sorted(name for name in answer if answer[name] == rank) for rank in range(greatest + 1)]
            self.assertEqual(layers, expected if told is None else told)
            self.assertIs(type(layers), list)
            self.assertEqual(needs, before)
            self.assertEqual(list(needs), list(before))

    def test_no_needs(self):
        self.ranked({}, {}, [])
        self.ranked({"a": []}, {"a": 0}, [["a"]])
        self.ranked({"b": [], "a": []}, {"a": 0, "b": 0}, [["a", "b"]])

    def test_names_that_lack_as_keys(self):
        self.ranked({"b": ["a"]}, {"a": 0, "b": 1}, [["a"], ["b"]])
        self.ranked({"a": ["z", "y"]}, {"z": 0, "y": 0, "a": 1}, [["y", "z"], ["a"]])

    def test_rows_and_several_ways(self):
        self.ranked({"d": ["c"], "c": ["b"], "b": ["a"]}, {"a": 0, "b": 1, "c": 2, "d": 3}, [["a"], ["b"], ["c"], ["d"]])
        self.ranked({"d": ["a", "c"], "c": ["a", "b"], "b": ["a"]}, {"a": 0, "b": 1, "c": 2, "d": 3})
        self.ranked({"d": ["a", "b"], "b": ["a"], "e": ["d", "f"]}, {"a": 0, "b": 1, "d": 2, "e": 3, "f": 0},
                    [["a", "f"], ["b"], ["d"], ["e"]])
        self.ranked({"b": ["a", "a", "a"], "c": ["b", "a", "b"]}, {"a": 0, "b": 1, "c": 2})

    def test_names_that_need_themselves(self):
        self.ranked({"a": ["a"]}, {"a": None}, [])
        self.ranked({"a": ["a", "b"]}, {"a": None, "b": 0}, [["b"]])
        self.ranked({"a": ["a"], "b": ["a"], "c": []}, {"a": None, "b": None, "c": 0}, [["c"]])

    def test_rings_and_what_leans_on_them(self):
        self.ranked({"a": ["b"], "b": ["a"]}, {"a": None, "b": None}, [])
        self.ranked({"a": ["b"], "b": ["c"], "c": ["a"], "d": ["a"], "e": ["d", "f"], "f": ["g"]},
                    {"a": None, "b": None, "c": None, "d": None, "e": None, "f": 1, "g": 0}, [["g"], ["f"]])
        self.ranked({"a": ["b", "x"], "b": ["a", "y"], "y": ["x"]}, {"a": None, "b": None, "x": 0, "y": 1},
                    [["x"], ["y"]])

    def test_whatever_texts(self):
        self.ranked({"": ["A b\n"], "~": [""]}, {"A b\n": 0, "": 1, "~": 2})

    def test_long_rows(self):
        names = row(5000)
        needs = {name: [below] for name, below in zip(names[1:], names)}
        self.ranked(needs, {name: rank for rank, name in enumerate(names)}, [[name] for name in names])
        needs = {name: [below] for name, below in reversed(list(zip(names[1:], names)))}
        self.ranked(needs, {name: rank for rank, name in enumerate(names)})
        needs[names[0]] = [names[-1]]
        self.ranked(needs, {name: None for name in names}, [])
        needs[names[0]] = [names[0]]
        self.ranked(needs, {name: None for name in names}, [])

    def test_against_all_pairs(self):
        chance = random.Random(20)
        for _ in range(300):
            names, needs = by_chance(chance, chance.randrange(1, 12))
            pairs = leaning_by_hand(needs)
            everyone = set(needs) | {needed for one in needs.values() for needed in one}
            lost = {a for a, b in pairs if (b, b) in pairs} | {a for a, b in pairs if a == b}
            answer = {name: None for name in everyone if name in lost}

            def rank(name):
                return 1 + max([rank(needed) for needed in needs.get(name, [])], default=-1)

            answer.update({name: rank(name) for name in everyone if name not in lost})
            self.ranked(needs, answer)

    def test_what_came_back_is_the_askers_own(self):
        needs = {"b": ["a"]}
        found, layers = ranks(needs), waves(needs)
        found["a"] = 7
        layers[0].append("x")
        layers.append(["y"])
        self.ranked(needs, {"a": 0, "b": 1}, [["a"], ["b"]])
        found, layers = ranks(needs), waves(needs)
        needs["c"] = ["b"]
        self.assertEqual((found, layers), ({"a": 0, "b": 1}, [["a"], ["b"]]))

    def test_the_arguments_have_their_names(self):
        self.assertEqual((ranks(needs={"a": []}), waves(needs={"a": []})), ({"a": 0}, [["a"]]))


if __name__ == "__main__":
    unittest.main()
