"""Books: promises 11, 12 and 13."""

import unittest

from thingyard.books import read_book, told_book
from thingyard.errors import BadBook, BadText

A = ("text", "a")
LETTERS = "abcdefghijklmnopqrstuvwxyz"
WORDS = "of if is then else each do it back first rest count sorted fail line more".split()


def thing(name):
    return ("thing", name)


def heads(number):
    return ["x" + LETTERS[k // 26] + LETTERS[k % 26] for k in range(number)]


class BooksTest(unittest.TestCase):

    def reads(self, text, rules, mores=()):
        with self.subTest(text=text[:80]):
            book = read_book(text)
            self.assertEqual(book, (list(rules), list(mores)))
            self.assertEqual([type(book), type(book[0]), type(book[1])], [tuple, list, list])
            self.assertTrue(all(type(rule) is tuple and len(rule) == 2 for rule in book[0]))

    def refuses(self, text, row, place):
        with self.subTest(text=text[:80]):
            with self.assertRaises(BadBook) as taken:
                read_book(text)
            self.assertEqual((taken.exception.row, taken.exception.place), (row, place))


class ReadTest(BooksTest):

    def test_heads(self):
        self.reads('main = "a"', [("main", A)])
        self.reads('obj.main = "a"', [("obj.main", A)])
        self.reads('obj.* = "a"', [("obj.*", A)])
        self.reads('abcdefgh.stuvwxyz = "a"\nabcdefgh.* = "a"', [("abcdefgh.stuvwxyz", A), ("abcdefgh.*", A)])

    def test_families_are_read_for_a_family(self):
        self.reads("obj.* = * src.*", [("obj.*", ("join", ("stem",), ("kin", "src")))])
        self.refuses("obj.main = *", 1, 11)
        self.refuses("main = src.*", 1, 7)

    def test_order(self):
        self.reads('b = "a"\na = b\nobj.* = a\nobj.b = b', [
            ("b", A), ("a", thing("b")), ("obj.*", thing("a")), ("obj.b", thing("b"))])
        self.reads('more b\na = "a"\nmore a.b', [("a", A)], ["b", "a.b"])

    def test_recipes(self):
        self.reads("a = b c", [("a", ("join", thing("b"), thing("c")))])
        self.reads("a = if b is c then d else e", [("a", ("if",) + tuple(map(thing, "bcde")))])
        self.reads('a = "=" "#" "more"', [("a", ("join", ("text", "="), ("text", "#"), ("text", "more")))])
        self.reads("a =each b do it", [("a", ("each", thing("b"), ("it",)))])

    def test_blanks_of_rules(self):
        for row in ("a =b", "a = b", "a    =    b", "   a = b", "a = b    ", "    a     =b  ", "a =(b)"):
            self.reads(row, [("a", thing("b"))])
            self.reads("\n" + row + "\n", [("a", thing("b"))])

    def test_blanks_of_mores(self):
        for row in ("more lib", "more    lib", "   more lib", "more lib    ", "  more   lib  "):
            self.reads(row, [], ["lib"])
        self.reads("more a.b", [], ["a.b"])

    def test_rows_that_say_nothing(self):
        for text in ("", "\n", "\n\n\n", "   ", "  \n  \n", "#", "# a = b", "#more", "#(\n\n#=", "#\n   \n#"):
            self.reads(text, [])
        self.reads('# first\n\na = "a"\n   \n#a = b\nmore b\n\n', [("a", A)], ["b"])

    def test_names_of_rules_and_mores_are_apart(self):
        self.reads('a = "a"\nmore a', [("a", A)], ["a"])
        self.reads('obj.* = "a"\nobj.a = "a"\nobj = "a"', [("obj.*", A), ("obj.a", A), ("obj", A)])

    def test_forty_rules_and_nine_mores(self):
        names = heads(40)
        rules = "\n".join(name + " =a" for name in names)
        mores = "\n".join("more " + name for name in names[:9])
        self.reads(rules, [(name, thing("a")) for name in names])
        self.reads(mores, [], names[:9])
        self.reads(mores + "\n" + rules, [(name, thing("a")) for name in names], names[:9])
        self.reads("# a\n\n" * 30 + rules, [(name, thing("a")) for name in names])

    def test_900_signs(self):
        text = 'a = "' + "b" * 894 + '"'
        self.assertEqual(len(text), 900)
        self.reads(text, [("a", ("text", "b" * 894))])

    def test_the_arguments_have_their_names(self):
        self.assertEqual(told_book(book=read_book(text="more a")), "more a\n")


class RefusedTest(BooksTest):

    def test_what_is_no_text(self):
        for wrong in (None, True, 0, 5, b"a", [], ["a"], (), {}, "a\tb", "\r\n", "\xe9", "a = b\x7f", " " * 901,
                      "#" + "a" * 900, 'a = "' + "b" * 895 + '"', "\n" * 901, object()):
            with self.subTest(wrong=repr(wrong)[:40]):
                with self.assertRaises(BadText):
                    read_book(wrong)

    def test_bad_text_ahead_of_bad_book(self):
        for wrong in ("a\n" * 600, "=\t", "\xe9 ="):
            with self.assertRaises(BadText):
                read_book(wrong)

    def test_rows_of_other_forms(self):
        for row in ("a", "a b", "=", "= a", "a=b", 'a="a"', "a= b", "abcdefghi = b", "A = b", "a.b.c = b", "* = b", ".* = b",
                    "*.a = b", "a.** = b", "a.b.* = b", "a.*.b = b", "a. = b", ".a = b", "7 = b", "a b = c", "a : b",
                    '"a" = b', "(a) = b", "more", "more a b", "more = a", "more =", "more a = b", "more a.*", "more *",
                    "more A", "more abcdefghi", "more more", "more of", 'more "a"', "more a.b.c", "morea", "mor e", "a# = b",
                    "a.* b", "=a", "a.*=b", "a +=b", "|a = b", "~"):
            self.refuses(row, 1, 0)
            self.refuses("   " + row, 1, 3)
            self.refuses("#\n\n  " + row + "\n", 3, 2)
        self.refuses(" #", 1, 1)
        self.refuses("  # a = b", 1, 2)
        for word in WORDS:
            self.refuses(" " + word + " = a", 1, 1)
            self.refuses("  " + word + ".* = a", 1, 2)
            self.refuses("  " + word + ".a = a", 1, 2)
            self.refuses("  a." + word + " = a", 1, 2)
            self.refuses(" more " + word, 1, 1)

    def test_recipes(self):
        self.refuses("a =", 1, 3)
        self.refuses("a =   ", 1, 6)
        self.refuses("  a  =", 1, 6)
        self.refuses("a = 7", 1, 4)
        self.refuses("a == b", 1, 3)
        self.refuses("a = b =", 1, 6)
        self.refuses("a = )", 1, 4)
        self.refuses("a = b )  ", 1, 6)
        self.refuses("   a   =   of  ", 1, 15)
        self.refuses("a = of", 1, 6)
        self.refuses("a = it", 1, 4)
        self.refuses("a = *", 1, 4)
        self.refuses("a.b = of c.*", 1, 9)
        self.refuses('a = "b', 1, 4)
        self.refuses('a = b "c\n"', 1, 6)
        self.refuses("a = b # c", 1, 6)
        self.refuses("a = " + "(" * 40 + "b" + ")" * 40, 1, 44)
        self.refuses("a = " + "b " * 100 + " ", 1, 205)
        self.refuses("a = " + "back " * 12 + "b  ", 1, 67)
        self.refuses("\n\na.* = * (", 3, 9)

    def test_heads_that_stood_ahead(self):
        self.refuses("a = b\na = b", 2, 0)
        self.refuses("a = b\n\n  a = c", 3, 2)
        self.refuses("a.* = b\nb = a\n a.* = *", 3, 1)
        self.refuses("a.b = b\n    a.b = b", 2, 4)

    def test_a_head_is_looked_at_ahead_of_its_recipe(self):
        self.refuses("a = b\n  a = )", 2, 2)
        self.refuses("a = b\n  a =", 2, 2)
        self.refuses("a = b\n  a", 2, 2)
        rules = "".join(name + " =a\n" for name in heads(40))
        self.refuses(rules + "   b = 7", 41, 3)

    def test_the_41st_rule(self):
        rules = "".join(name + " =a\n" for name in heads(40))
        self.refuses(rules + "b = a", 41, 0)
        self.refuses(rules + "#\n\n  b.* = *\n", 43, 2)
        self.refuses(rules + "more a\n b = a", 42, 1)

    def test_mores_that_stood_ahead(self):
        self.refuses("more a\nmore a", 2, 5)
        self.refuses("more a\nmore b\n  more    a   ", 3, 10)
        self.refuses("more e\n more e", 2, 6)
        self.refuses("more or\nmore or", 2, 5)
        self.refuses("more m\n  more  m ", 2, 8)

    def test_the_tenth_more(self):
        mores = "".join("more " + name + "\n" for name in heads(9))
        self.refuses(mores + "more a", 10, 5)
        self.refuses(mores + "a = b\n\n more   a.b  ", 12, 8)
        self.refuses(mores + "more", 10, 0)

    def test_the_first_wrong_row_is_told(self):
        self.refuses("a = (\nb\n=", 1, 5)
        self.refuses("a = b\nb\na = )", 2, 0)
        self.refuses("more a\nmore a\nx", 2, 5)
        self.refuses("\n\n  x\nmore", 3, 2)

    def test_what_is_refused_changes_nothing(self):
        self.refuses("a = b\nmore c\na = b", 3, 0)
        self.reads("a = b\nmore c", [("a", thing("b"))], ["c"])


class ToldTest(BooksTest):

    def test_told_texts(self):
        for text, told in (
            ("", ""), ("# a\n\n", ""), ("a =b", "a = b\n"), ("more  b ", "more b\n"),
            ("more c\n  a   =  (b)\nmore b\nobj.* =(*)\n# end", "a = b\nobj.* = *\nmore c\nmore b\n"),
            ('z ="a""b"\na = of((b c))', 'z = "a" "b"\na = of (b c)\n'),
        ):
            with self.subTest(text=text):
                self.assertEqual(told_book(read_book(text)), told)
                self.assertEqual(read_book(told), read_book(text))
                self.assertEqual(told_book(read_book(told)), told)

    def test_more_than_900_signs(self):
        book = read_book('a =' + '""' * 90 + '\nb =' + '""' * 90 + '\nc =' + '""' * 90 + '\nd =' + '""' * 90)
        row = " = " + " ".join(['""'] * 90) + "\n"
        self.assertEqual(told_book(book), "a" + row + "b" + row + "c" + row + "d" + row)
        self.assertGreater(len(told_book(book)), 900)

    def test_nothing_handed_in_is_changed(self):
        book = ([("a", A), ("b.*", ("stem",))], ["c", "d"])
        self.assertEqual(told_book(book), 'a = "a"\nb.* = *\nmore c\nmore d\n')
        self.assertEqual(book, ([("a", A), ("b.*", ("stem",))], ["c", "d"]))

    def test_lists_that_were_handed_out_and_changed(self):
        text = "a = b\nmore c"
        book = read_book(text)
        book[0].append(("d", A))
        book[1].clear()
        self.reads(text, [("a", thing("b"))], ["c"])
        empty = read_book("")
        empty[0].append(("d", A))
        empty[1].append("d")
        self.reads("", [])
        first = read_book(text)
        read_book("x = y\nmore z")
        self.assertEqual(first, ([("a", thing("b"))], ["c"]))
        self.assertIsNot(read_book(text)[0], first[0])


if __name__ == "__main__":
    unittest.main()
