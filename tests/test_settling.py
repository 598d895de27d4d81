"""What the yards stand on: remembered accounts, and things brought to theirs."""

import unittest

from thingyard.accounts import Accounts, given_account, text_in
from thingyard.books import read_book
from thingyard.settling import Bench, Settling

FAILED = (("none",), (), ("fails", "no rule"))


class AccountsTest(unittest.TestCase):

    def accounts(self):
        accounts = Accounts()
        accounts.keep("c", (("rule", "a b", None), ("a", "b"), ("text", "xy")))
        accounts.keep("b", (("rule", "a", None), ("a",), ("text", "x")))
        accounts.keep("a", given_account("x"))
        accounts.keep("d", FAILED)
        accounts.keep("e", (("rule", "e", None), ("e",), ("ring", ("e",))))
        return accounts

    def test_texts(self):
        self.assertEqual(text_in(given_account("x")), "x")
        self.assertEqual(text_in(given_account("")), "")
        self.assertIsNone(text_in(FAILED))

    def test_kept_in_order(self):
        accounts = self.accounts()
        self.assertEqual(list(accounts.in_order()), ["a", "b", "c", "d", "e"])
        self.assertEqual(accounts.kept_of("d"), FAILED)
        self.assertIsNone(accounts.kept_of("z"))

    def test_let_go_with_what_leans_on_it(self):
        for name, left in (("a", "de"), ("b", "ade"), ("c", "abde"), ("d", "abce"), ("e", "abcd"), ("z", "abcde")):
            accounts = self.accounts()
            accounts.let_go(name)
            self.assertEqual(list(accounts.in_order()), list(left))
        accounts = self.accounts()
        accounts.let_all_go()
        self.assertEqual(accounts.in_order(), {})

    def test_leaning(self):
        self.assertEqual(self.accounts().leaning_on("a"), ["b", "c"])
        self.assertEqual(self.accounts().leaning_on("e"), ["e"])


class SettlingTest(unittest.TestCase):

    def settled(self, text, texts, name):
        accounts, bench = Accounts(), Bench(1000)
        Settling(read_book(text), texts, accounts, bench).settle(name)
        return accounts.in_order(), bench.rows

    def test_given_and_made(self):
        accounts, rows = self.settled('a = b "-"\nc = a', {"b": "x"}, "a")
        self.assertEqual(accounts, {"a": (("rule", 'b "-"', None), ("b",), ("text", "x-")), "b": given_account("x")})
        self.assertEqual(rows, [('b "-"', None, (), ("asks", "b")), ('b "-"', None, (("b", "x"),), ("text", "x-"))])

    def test_a_thing_that_is_gone_on_with_is_not_worked_anew(self):
        accounts, bench = Accounts(), Bench(0)
        Settling(read_book("a = b c d\nc = b"), {"b": "x", "d": "y"}, accounts, bench).settle("a")
        self.assertEqual(accounts.kept_of("a")[2], ("text", "xxy"))
        self.assertEqual([(row[0], len(row[2])) for row in bench.rows],
                         [("b c d", 0), ("b c d", 1), ("b", 0), ("b", 1), ("b c d", 2), ("b c d", 3)])

    def test_rings_and_stops(self):
        accounts, rows = self.settled("a = b\nb = c\nc = b", {}, "a")
        ring = ("ring", ("b", "c"))
        self.assertEqual(accounts, {
            "a": (("rule", "b", None), ("b",), ("stopped", "b")),
            "b": (("rule", "c", None), ("c",), ring),
            "c": (("rule", "b", None), ("b",), ring),
        })
        self.assertEqual(len(rows), 2)

    def test_books_in_things(self):
        accounts, rows = self.settled("more lib", {"lib": "a = lib"}, "a")
        self.assertEqual(accounts["a"], (("rule", "lib", None), ("lib",), ("text", "a = lib")))
        accounts, rows = self.settled("more lib", {"lib": "a"}, "a")
        self.assertEqual(accounts["a"], (("none",), ("lib",), ("fails", "no book")))

    def test_long_rows(self):
        names = ["n." + "".join(chr(97 + k // 26 ** place % 26) for place in range(3)) for k in range(3000)]
        texts = {"go" + name[1:]: other for name, other in zip(names, names[1:])}
        accounts, rows = self.settled("n.* = of go.*", {**texts, "go" + names[-1][1:]: "done", "done": "end"}, names[0])
        self.assertEqual(accounts[names[0]][2], ("text", "end"))
        self.assertEqual(len(accounts), 6001)


if __name__ == "__main__":
    unittest.main()
