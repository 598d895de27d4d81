"""A thing's rule in a book: promise 14."""

import unittest

from thingyard.books import read_book
from thingyard.finding import rule_in

A = ("text", "a")
B = ("text", "b")
STEM = ("stem",)
LETTERS = "abcdefghijklmnopqrstuvwxyz"


class FindingTest(unittest.TestCase):

    def finds(self, rules, name, answer, mores=()):
        with self.subTest(name=name):
            found = rule_in((list(rules), list(mores)), name)
            self.assertEqual(found, answer)
            self.assertIs(type(found), type(answer))

    def test_the_very_name(self):
        self.finds([("main", A)], "main", (A, None))
        self.finds([("obj.main", A)], "obj.main", (A, None))
        self.finds([("b", B), ("a", A), ("c", B)], "a", (A, None))

    def test_a_family(self):
        self.finds([("obj.*", STEM)], "obj.main", (STEM, "main"))
        self.finds([("src.*", A), ("obj.*", STEM)], "obj.obj", (STEM, "obj"))
        self.finds([("abcdefgh.*", STEM)], "abcdefgh.stuvwxyz", (STEM, "stuvwxyz"))

    def test_the_very_name_goes_ahead_of_the_family(self):
        for rules in ([("obj.main", A), ("obj.*", B)], [("obj.*", B), ("obj.main", A)]):
            self.finds(rules, "obj.main", (A, None))
            self.finds(rules, "obj.other", (B, "other"))

    def test_none(self):
        self.finds([], "main", None)
        self.finds([], "obj.main", None)
        self.finds([("main", A)], "mai", None)
        self.finds([("main", A)], "mains", None)
        self.finds([("main", A), ("obj", A)], "obj.main", None)
        self.finds([("obj.main", A)], "obj.mains", None)
        self.finds([("obj.main", A)], "main", None)
        self.finds([("obj.*", A)], "obj", None)
        self.finds([("obj.*", A)], "main.obj", None)
        self.finds([("ob.*", A), ("obje.*", A)], "obj.main", None)
        self.finds([], "lib", None, ["lib"])

    def test_mores_say_nothing_here(self):
        self.finds([("lib", A)], "lib", (A, None), ["lib", "obj"])

    def test_books_of_many_rules(self):
        names = [a + b + c for a in LETTERS for b in LETTERS for c in LETTERS[:5]]
        rules = [("x" + name, ("text", name)) for name in names] + [("x" + name + ".*", ("fail", A)) for name in names]
        for name in (names[0], names[777], names[-1]):
            self.finds(rules, "x" + name, (("text", name), None))
            self.finds(rules, "x" + name + ".a", (("fail", A), "a"))
        self.finds(rules, "y", None)

    def test_books_that_were_read(self):
        book = read_book("obj.* = *\nobj.a = a\na = b\nmore c")
        self.assertEqual(rule_in(book, "obj.a"), (("thing", "a"), None))
        self.assertEqual(rule_in(book, "obj.b"), (("stem",), "b"))
        self.assertEqual(rule_in(book, "a"), (("thing", "b"), None))
        self.assertIsNone(rule_in(book, "c"))

    def test_the_book_is_neither_changed_nor_kept(self):
        book = read_book("obj.* = *\nmore c")
        rule_in(book, "obj.a")
        rule_in(book, "a")
        self.assertEqual(book, read_book("obj.* = *\nmore c"))
        book[0].clear()
        self.assertIsNone(rule_in(book, "obj.a"))

    def test_the_arguments_have_their_names(self):
        self.assertEqual(rule_in(book=([("a", A)], []), name="a"), (A, None))


if __name__ == "__main__":
    unittest.main()
