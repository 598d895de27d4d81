"""The told text of recipes: promise 10."""

import random
import unittest

from thingyard.reading import read_recipe
from thingyard.telling import told_recipe
from thingyard.trees import is_tree

A = ("thing", "a")
B = ("thing", "b")
ONE_PART = ("of", "back", "first", "rest", "count", "sorted", "fail")


class TellingTest(unittest.TestCase):

    def tells(self, tree, told):
        with self.subTest(told=told[:80]):
            self.assertEqual(told_recipe(tree), told)
            self.assertEqual(read_recipe(told, True), tree)

    def test_parts_without_parts(self):
        self.tells(("text", ""), '""')
        self.tells(("text", "a  b"), '"a  b"')
        self.tells(("text", "("), '"("')
        self.tells(("line",), "line")
        self.tells(("stem",), "*")
        self.tells(("thing", "main"), "main")
        self.tells(("thing", "obj.main"), "obj.main")
        self.tells(("kin", "obj"), "obj.*")
        self.assertEqual(told_recipe(("it",)), "it")

    def test_parts_with_parts(self):
        for kind in ONE_PART:
            self.tells((kind, A), kind + " a")
            self.tells((kind, ("text", "a b")), kind + ' "a b"')
            self.tells((kind, (kind, A)), kind + " " + kind + " a")
        self.tells(("if", A, B, ("line",), ("stem",)), "if a is b then line else *")
        self.tells(("each", A, ("it",)), "each a do it")
        self.tells(("each", A, ("each", ("it",), ("of", ("it",)))), "each a do each it do of it")

    def test_joins(self):
        self.tells(("join", A, B), "a b")
        self.tells(("join", A, B, ("line",)), "a b line")
        self.tells(("join", A, ("join", A, B)), "a (a b)")
        self.tells(("join", ("join", A, B), A), "(a b) a")
        self.tells(("join", ("join", A, B), ("join", B, A)), "(a b) (b a)")
        self.tells(("join", ("join", ("join", A, B), A), B), "((a b) a) b")
        self.tells(("join", A, ("join", A, ("join", A, B))), "a (a (a b))")

    def test_joins_within_other_parts(self):
        join = ("join", A, B)
        for kind in ONE_PART:
            self.tells((kind, join), kind + " (a b)")
            self.tells(("join", (kind, A), B), kind + " a b")
        self.tells(("if", join, join, join, join), "if (a b) is (a b) then (a b) else (a b)")
        self.tells(("each", join, ("join", ("it",), A)), "each (a b) do (it a)")
        self.tells(("back", ("back", join)), "back back (a b)")

    def test_brackets_within_quotes(self):
        self.tells(("join", ("text", "("), A, ("text", ")"), B), '"(" a ")" b')
        self.tells(("back", ("join", ("text", ")"), ("text", "("))), 'back (")" "(")')
        self.tells(("join", ("text", ""), ("text", "")), '"" ""')

    def test_told_anew(self):
        for text, told in (
            ('  a"b"c  ', 'a "b" c'), ("((a))", "a"), ("( a b )", "a b"), ("of(a)", "of a"), ("of((a b))", "of (a b)"),
            ("(a)(b)", "a b"), ("(of a) b", "of a b"), ("of (of a)", "of of a"), ("(a (b)) line", "(a b) line"),
            ('if(a)is(b)then(a b)else""', 'if a is b then (a b) else ""'), ("each(a)do(it)", "each a do it"),
        ):
            with self.subTest(text=text):
                self.assertEqual(told_recipe(read_recipe(text, True)), told)

    def test_more_than_900_signs(self):
        tree = ("join",) + (("text", "a" * 30),) * 99
        self.assertEqual(told_recipe(tree), " ".join(['"' + "a" * 30 + '"'] * 99))

    def test_trees_beyond_the_bounds(self):
        tree = A
        for _ in range(5000):
            tree = ("back", tree)
        self.assertEqual(told_recipe(tree), "back " * 5000 + "a")

    def test_the_argument_has_its_name(self):
        self.assertEqual(told_recipe(tree=A), "a")


class GoneRoundTest(unittest.TestCase):

    def tree(self, chance, height, within):
        kinds = ["text", "line", "stem", "thing", "kin"] + ["it"] * within
        if height > 1:
            kinds += ["join", "join", "if", "each"] + list(ONE_PART)
        kind = chance.choice(kinds)
        if kind in ("line", "it", "stem"):
            return (kind,)
        if kind == "text":
            return (kind, chance.choice(["", "a", "(", ")", "it", " x ", "a.*"]))
        if kind == "thing":
            return (kind, chance.choice(["a", "lines", "obj.main"]))
        if kind == "kin":
            return (kind, chance.choice(["a", "obj"]))
        if kind == "each":
            return (kind, self.tree(chance, height - 1, within), self.tree(chance, height - 1, True))
        number = {"join": chance.choice([2, 3]), "if": 4}.get(kind, 1)
        return (kind,) + tuple(self.tree(chance, height - 1, within) for _ in range(number))

    def test_what_is_told_is_read_as_the_same_tree(self):
        chance = random.Random(7)
        seen = 0
        for _ in range(3000):
            tree = self.tree(chance, chance.randrange(1, 13), False)
            if is_tree(tree, True, False):
                seen += 1
                told = told_recipe(tree)
                self.assertEqual(read_recipe(told, True), tree)
                self.assertEqual(told_recipe(read_recipe(told, True)), told)
        self.assertGreater(seen, 1000)

    def test_the_highest_trees_are_read_again(self):
        tree = ("join", A, B)
        for _ in range(10):
            tree = ("join", A, tree)
        self.assertIs(is_tree(tree, False, False), True)
        self.assertEqual(read_recipe(told_recipe(tree), False), tree)
        tree = ("join", A, B)
        for kind in ("back", "join", "of", "join", "first", "join", "rest", "join", "count", "join"):
            tree = ("join", A, tree) if kind == "join" else (kind, tree)
            self.assertEqual(read_recipe(told_recipe(tree), False), tree)
        self.assertIs(is_tree(tree, False, False), True)
        self.assertIs(is_tree(("back", tree), False, False), False)


if __name__ == "__main__":
    unittest.main()
