"""Rings: promise 21."""

import unittest

from thingyard.rings import is_ring, ring_from, turned


def row(number):
    return ["n" + str(k).zfill(6) for k in range(number)]


class TurnedTest(unittest.TestCase):

    def turns(self, ring, answer):
        with self.subTest(ring=ring[:5]):
            before = list(ring)
            found = turned(ring)
            self.assertEqual(found, answer)
            self.assertIs(type(found), list)
            self.assertIsNot(found, ring)
            self.assertEqual(ring, before)

    def test_rings(self):
        self.turns(["a"], ["a"])
        self.turns(["a", "b"], ["a", "b"])
        self.turns(["b", "a"], ["a", "b"])
        self.turns(["c", "a", "b"], ["a", "b", "c"])
        self.turns(["c", "b", "a"], ["a", "c", "b"])
        self.turns(["b", "d", "a", "c"], ["a", "c", "b", "d"])
        self.turns(["b", "B", "a.b", "a"], ["B", "a.b", "a", "b"])
        self.turns(["x", "", "~"], ["", "~", "x"])

    def test_long_rings(self):
        names = row(5000)
        self.turns(names[777:] + names[:777], names)
        self.turns(names[:1] + names[:0:-1], names[:1] + names[:0:-1])

    def test_what_came_back_is_the_askers_own(self):
        ring = ["a", "b"]
        turned(ring).append("c")
        self.assertEqual(ring, ["a", "b"])

    def test_the_argument_has_its_name(self):
        self.assertEqual(turned(ring=["b", "a"]), ["a", "b"])


class RingFromTest(unittest.TestCase):

    def goes(self, nexts, name, answer):
        with self.subTest(name=name):
            before = dict(nexts)
            found = ring_from(nexts, name)
            self.assertEqual(found, answer)
            self.assertIs(type(found), list)
            self.assertEqual(nexts, before)

    def test_to_an_end(self):
        self.goes({}, "a", [])
        self.goes({"a": "b"}, "a", [])
        self.goes({"a": "b"}, "b", [])
        self.goes({"a": "b", "b": "c", "c": "d", "x": "x"}, "a", [])

    def test_round_at_once(self):
        self.goes({"a": "a"}, "a", ["a"])
        for name in "ab":
            self.goes({"a": "b", "b": "a"}, name, ["a", "b"])
        for name in "abc":
            self.goes({"c": "b", "b": "a", "a": "c"}, name, ["a", "c", "b"])

    def test_a_ring_behind_a_row(self):
        nexts = {"a": "z", "z": "d", "d": "c", "c": "e", "e": "d", "q": "q"}
        for name in "azdce":
            self.goes(nexts, name, ["c", "e", "d"])
        self.goes({"a": "b", "b": "b"}, "a", ["b"])

    def test_long_rows(self):
        names = row(5000)
        nexts = dict(zip(names, names[1:]))
        self.goes(nexts, names[0], [])
        nexts[names[-1]] = names[0]
        self.goes(nexts, names[1234], names)
        nexts[names[-1]] = names[4000]
        self.goes(nexts, names[0], names[4000:])

    def test_what_came_back_is_the_askers_own(self):
        nexts = {"a": "a"}
        ring_from(nexts, "a").append("b")
        self.goes(nexts, "a", ["a"])
        ring_from({}, "a").append("b")
        self.goes({}, "a", [])

    def test_the_arguments_have_their_names(self):
        self.assertEqual(ring_from(nexts={"a": "a"}, name="a"), ["a"])


class IsRingTest(unittest.TestCase):

    NEEDS = {"a": ["b", "x"], "b": ["y", "c"], "c": ["a", "c"], "d": ["d"], "e": ["f"], "f": ["e", "a"], "x": []}

    def says(self, names, answer, needs=None):
        needs = self.NEEDS if needs is None else needs
        with self.subTest(names=repr(names)[:60]):
            self.assertIs(is_ring(needs, names), answer)

    def test_rings(self):
        self.says(["a", "b", "c"], True)
        self.says(["c"], True)
        self.says(["d"], True)
        self.says(["e", "f"], True)
        self.says([""], True, {"": ["a", ""]})

    def test_another_order(self):
        self.says(["a", "c", "b"], False)
        self.says(["f", "e"], False)
        self.says(["b", "c", "a"], False)
        self.says(["c", "a", "b"], False)

    def test_a_name_twice(self):
        self.says(["d", "d"], False)
        self.says(["e", "f", "e", "f"], False)
        self.says(["a", "b", "c", "c"], False)
        self.says(["a", "b", "c", "a", "b", "c"], False)

    def test_one_that_does_not_need_the_next(self):
        self.says(["a"], False)
        self.says(["a", "b"], False)
        self.says(["a", "x"], False)
        self.says(["b", "c"], False)
        self.says(["x"], False)
        self.says(["a", "b", "c", "d"], False)
        self.says(["z"], False)
        self.says(["b", "y"], False)
        self.says(["a"], False, {})
        self.says(["a", "b"], False, {"a": ["b"]})
        self.says(["a", "b"], False, {"b": ["a"]})

    def test_no_names(self):
        self.says([], False)
        self.says([], False, {})

    def test_things_that_are_no_lists(self):
        for thing in (("d",), ("a", "b", "c"), (), "d", "abc", "", None, True, False, 0, 1, -3):
            self.says(thing, False)

    def test_things_within_lists(self):
        for inner in (None, True, False, 0, 1, (), [], ["d"], ("d",), [[]], ((),)):
            self.says([inner], False)
            self.says(["d", inner], False)
            self.says([inner, "d"], False)
            self.says(["a", "b", "c", inner], False)
            self.says([inner, inner], False)

    def test_long_rings(self):
        names = row(3000)
        needs = {name: [other] for name, other in zip(names, names[1:] + names[:1])}
        self.says(names, True, needs)
        self.says(names[1:] + names[:1], False, needs)
        self.says(names[:-1], False, needs)

    def test_nothing_is_changed(self):
        needs = {"a": ["b"], "b": ["a"]}
        names = ["a", "b"]
        self.says(names, True, needs)
        self.assertEqual((needs, names), ({"a": ["b"], "b": ["a"]}, ["a", "b"]))

    def test_the_arguments_have_their_names(self):
        self.assertIs(is_ring(needs={"a": ["a"]}, names=["a"]), True)


if __name__ == "__main__":
    unittest.main()
