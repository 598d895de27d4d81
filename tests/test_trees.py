"""Recipes as trees: promises 7 and 9."""

import reprlib
import unittest

from thingyard.trees import height_of, is_tree, size_of

A = ("text", "a")
WORDS = "of if is then else each do it back first rest count sorted fail line more".split()
LEAVES = [A, ("text", ""), ("line",), ("it",), ("stem",), ("thing", "main"), ("thing", "obj.main"), ("kin", "obj")]
ONE_PART = ("of", "back", "first", "rest", "count", "sorted", "fail")


def tower(height, top=A):
    tree = top
    for _ in range(height - 1):
        tree = ("back", tree)
    return tree


def broad(size):
    return ("join",) + (A,) * (size - 1)


def deep_tuple(depth, inner=()):
    thing = inner
    for _ in range(depth):
        thing = (thing,)
    return thing


def deep_list(depth):
    thing = []
    for _ in range(depth):
        thing = [thing]
    return thing


class MeasuresTest(unittest.TestCase):

    def measures(self, tree, height, size):
        with self.subTest(tree=reprlib.repr(tree)):
            self.assertEqual((height_of(tree), size_of(tree)), (height, size))
            self.assertEqual((type(height_of(tree)), type(size_of(tree))), (int, int))

    def test_parts_without_parts(self):
        for leaf in LEAVES:
            self.measures(leaf, 1, 1)
        self.measures(("text", "of back (a b)"), 1, 1)

    def test_parts_with_one_part(self):
        for kind in ONE_PART:
            for leaf in LEAVES:
                self.measures((kind, leaf), 2, 2)
            self.measures((kind, (kind, A)), 3, 3)
            self.measures((kind, ("join", A, A, A)), 3, 5)

    def test_joins(self):
        self.measures(("join", A, A), 2, 3)
        self.measures(("join", A, A, A, A), 2, 5)
        self.measures(("join", A, ("of", A)), 3, 4)
        self.measures(("join", ("join", A, A), A, ("join", A, ("join", A, A))), 4, 10)

    def test_ifs(self):
        self.measures(("if", A, A, A, A), 2, 5)
        for place in range(4):
            parts = [A, A, A, A]
            parts[place] = ("back", ("back", A))
            self.measures(("if",) + tuple(parts), 4, 7)

    def test_eaches(self):
        self.measures(("each", A, ("it",)), 2, 3)
        self.measures(("each", ("first", A), ("it",)), 3, 4)
        self.measures(("each", A, ("first", ("it",))), 3, 4)
        self.measures(("each", A, ("each", ("it",), ("join", ("it",), A))), 4, 7)

    def test_the_highest_part_counts(self):
        self.measures(("join", tower(3), tower(7), tower(5)), 8, 16)

    def test_beyond_the_bounds(self):
        self.measures(tower(12), 12, 12)
        self.measures(tower(13), 13, 13)
        self.measures(broad(100), 2, 100)
        self.measures(broad(101), 2, 101)
        self.measures(tower(20000), 20000, 20000)
        self.measures(("join", tower(5000), tower(7000)), 7001, 12001)
        self.measures(broad(20000), 2, 20000)

    def test_the_arguments_have_their_names(self):
        self.assertEqual((height_of(tree=A), size_of(tree=A)), (1, 1))


class IsTreeTest(unittest.TestCase):

    def says(self, thing, answer, family=False, within=False):
        with self.subTest(thing=reprlib.repr(thing), family=family, within=within):
            self.assertIs(is_tree(thing, family, within), answer)

    def always(self, thing, answer):
        for family in (False, True):
            for within in (False, True):
                self.says(thing, answer, family, within)

    def test_parts_that_stand_anywhere(self):
        for thing in (A, ("text", ""), ("text", "a" * 900), ("text", "~ !#'()"), ("line",), ("thing", "main"),
                      ("thing", "obj.main"), ("join", A, A), ("join", A, A, A), ("if", A, A, A, A), ("each", A, A)):
            self.always(thing, True)
        for kind in ONE_PART:
            self.always((kind, A), True)

    def test_stem_and_kin_only_for_a_family(self):
        for leaf in (("stem",), ("kin", "obj")):
            for tree in (leaf, ("back", leaf), ("join", A, leaf), ("join", leaf, A), ("each", A, leaf),
                         ("each", leaf, A), ("if", A, leaf, A, A), ("of", ("of", ("fail", leaf)))):
                for within in (False, True):
                    self.says(tree, True, True, within)
                    self.says(tree, False, False, within)

    def test_it_only_within(self):
        it = ("it",)
        for tree in (it, ("back", it), ("join", A, it), ("each", it, A), ("each", ("of", it), it),
                     ("if", A, A, A, it), ("join", ("each", A, it), it), ("each", ("each", it, it), it)):
            for family in (False, True):
                self.says(tree, True, family, True)
                self.says(tree, False, family, False)

    def test_it_in_the_second_part_of_an_each(self):
        it = ("it",)
        for tree in (("each", A, it), ("each", A, ("back", ("join", A, it))), ("each", A, ("each", it, it)),
                     ("each", A, ("each", A, it)), ("each", ("each", A, it), it), ("back", ("each", A, it)),
                     ("each", A, ("each", A, ("join", A, ("if", it, it, it, it))))):
            self.always(tree, True)

    def test_heights(self):
        self.always(tower(11), True)
        self.always(tower(12), True)
        self.always(tower(13), False)
        self.always(tower(14), False)
        self.always(("join", A, tower(11)), True)
        self.always(("join", A, tower(12)), False)
        self.says(tower(12, ("stem",)), True, True, False)
        self.says(tower(12, ("stem",)), False, False, False)

    def test_sizes(self):
        self.always(broad(99), True)
        self.always(broad(100), True)
        self.always(broad(101), False)
        self.always(("back", broad(99)), True)
        self.always(("back", broad(100)), False)
        self.always(("join", broad(50), broad(49)), True)
        self.always(("join", broad(50), broad(50)), False)
        self.always(broad(100000), False)

    def test_bare_things(self):
        for thing in (None, True, False, 0, 1, -5, "", "a", "text", "line", "\t", [], (), [A], (A,), ((),), ([],)):
            self.always(thing, False)

    def test_lists_in_the_place_of_tuples(self):
        for thing in (["text", "a"], ["line"], ["it"], ["thing", "main"], ["join", A, A], ["of", A]):
            self.always(thing, False)
            self.always(("back", thing), False)
            self.always(("join", A, thing), False)

    def test_kinds_that_are_none(self):
        for kind in ("", "quote", "word", "Text", "texts", "is", "then", "else", "do", "more", "*", "main", "\u20ac",
                     None, True, False, 0, 1, (), [], ("text",), ["text"]):
            for rest in ((), ("a",), (A,), (A, A), (A, A, A, A)):
                self.always((kind,) + rest, False)
                self.always(("of", (kind,) + rest), False)

    def test_too_few_and_too_many_parts(self):
        for thing in (("text",), ("text", "a", "a"), ("line", "a"), ("line", A), ("it", A), ("it", "a"), ("stem", "a"),
                      ("thing",), ("thing", "a", "b"), ("kin",), ("kin", "a", "b"), ("join",), ("join", A), ("of",),
                      ("of", A, A), ("if",), ("if", A, A, A), ("if", A, A, A, A, A), ("each",), ("each", A),
                      ("each", A, A, A)):
            self.always(thing, False)
        for kind in ONE_PART:
            self.always((kind,), False)
            self.always((kind, A, A), False)

    def test_texts_of_texts(self):
        for text in ('"', 'a"b', "\n", "a\nb", "\t", "\r", "\xe9", "\x7f", "a" * 901):
            self.always(("text", text), False)
        for thing in (None, True, False, 0, 7, (), [], A, ["a"]):
            self.always(("text", thing), False)

    def test_names_of_things(self):
        for thing in ("", "Main", "abcdefghi", "a.b.c", "a.", ".a", "a.*", "*", "a b", None, True, 3, [], (), A):
            self.always(("thing", thing), False)
        for word in WORDS:
            self.always(("thing", word), False)
            self.always(("kin", word), False)

    def test_names_of_kins(self):
        for thing in ("", "Main", "abcdefghi", "a.b", "a.", "a.*", "*", None, False, 3, [], (), A):
            self.always(("kin", thing), False)
        self.says(("kin", "abcdefgh"), True, True)

    def test_things_in_the_place_of_parts(self):
        for thing in (None, True, False, 0, 1, "", "a", [], (), ["text", "a"], ("text",)):
            for tree in (("of", thing), ("join", A, thing), ("join", thing, A), ("join", A, A, thing),
                         ("if", A, A, A, thing), ("if", thing, A, A, A), ("each", thing, A), ("each", A, thing),
                         tower(11, ("join", A, thing)), ("join", A, ("back", ("if", A, A, thing, A)))):
                self.always(tree, False)

    def test_very_deep_things(self):
        for thing in (deep_tuple(100000), deep_tuple(100000, "text"), deep_list(50000), tower(100000)):
            self.always(thing, False)
            self.always(("text", thing), False)
            self.always(("thing", thing), False)
            self.always(("kin", thing), False)
            self.always((thing, A), False)
            self.always((thing,), False)
            self.always(("of", thing), False)
            self.always(("join", A, thing), False)
            self.always(("each", A, (thing, thing)), False)

    def test_nothing_is_changed(self):
        inner = ["text", "a"]
        thing = ("join", A, inner)
        is_tree(thing, True, True)
        self.assertEqual(inner, ["text", "a"])

    def test_the_arguments_have_their_names(self):
        self.assertIs(is_tree(thing=("stem",), family=True, within=False), True)


if __name__ == "__main__":
    unittest.main()
