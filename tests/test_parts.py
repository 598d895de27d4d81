"""What single parts make of texts: promise 15."""

import unittest

from thingyard.parts import counted, first_word, rest_words, sorted_words, turned_about

# Texts, each with its first word, the rest, their number, and its words sorted.
TEXTS = [
    ("", "", "", "0", ""),
    (" ", "", "", "0", ""),
    ("\n", "", "", "0", ""),
    (" \n \n ", "", "", "0", ""),
    ("a", "a", "", "1", "a"),
    ("  abc  ", "abc", "", "1", "abc"),
    ("\nabc\n", "abc", "", "1", "abc"),
    ("a b", "a", "b", "2", "a b"),
    ("b a", "b", "a", "2", "a b"),
    ("b\na", "b", "a", "2", "a b"),
    ("  c   b\n\n a \n", "c", "b a", "3", "a b c"),
    ("b a b a", "b", "a b a", "4", "a a b b"),
    ("b B 10 9 ~ ! a.b a", "b", "B 10 9 ~ ! a.b a", "8", "! 10 9 B a a.b b ~"),
    ("ab a abc", "ab", "a abc", "3", "a ab abc"),
    ("x " * 450, "x", " ".join(["x"] * 449), "450", " ".join(["x"] * 450)),
    ("y" * 900, "y" * 900, "", "1", "y" * 900),
]


class PartsTest(unittest.TestCase):

    def test_words(self):
        for text, first, rest, count, ordered in TEXTS:
            with self.subTest(text=text[:40]):
                self.assertEqual(first_word(text), first)
                self.assertEqual(rest_words(text), rest)
                self.assertEqual(counted(text), count)
                self.assertEqual(sorted_words(text), ordered)

    def test_counts_in_figures(self):
        for number in (0, 1, 2, 9, 10, 11, 99, 100, 101, 450):
            self.assertEqual(counted("w " * number), str(number))
            self.assertEqual(counted("\nw" * number + " \n"), str(number))

    def test_turned_about(self):
        for text, turned in (("", ""), ("a", "a"), ("ab", "ba"), ("abc", "cba"), (" a", "a "), ("a\nb c", "c b\na"),
                             ("(a)", ")a("), ("a" * 899 + "b", "b" + "a" * 899), ("\n \n  ", "  \n \n")):
            with self.subTest(text=text[:40]):
                self.assertEqual(turned_about(text), turned)
                self.assertEqual(turned_about(turned), text)

    def test_the_arguments_have_their_names(self):
        self.assertEqual(
            [part(text="b a") for part in (turned_about, first_word, rest_words, counted, sorted_words)],
            ["a b", "b", "a", "2", "a b"],
        )


if __name__ == "__main__":
    unittest.main()
