"""The rows of desks: promise 28."""

import unittest

from thingyard.commands import command_of

NONE = ("none",)
WITH_NAME = ("drop", "ask", "why", "leaners")


class CommandsTest(unittest.TestCase):

    def reads(self, row, command):
        with self.subTest(row=row):
            answer = command_of(row)
            self.assertEqual(answer, command)
            self.assertIs(type(answer), tuple)

    def test_words_alone(self):
        for word in ("book", "works"):
            for row in (word, " " + word, word + " ", "   " + word + "   "):
                self.reads(row, (word,))
            for row in (word + " a", word + " " + word, word + "  a b", word + "s", word[:-1], "a " + word, word.upper(), word + "."):
                self.reads(row, NONE)

    def test_words_with_a_name(self):
        for word in WITH_NAME:
            for row in (word + " a", "  " + word + " a", word + "   a", word + " a  ", "  " + word + "  a "):
                self.reads(row, (word, "a"))
            for row in (word, word + " ", "  " + word, word + " a b", word + " a b c", word + "a", word + ".a", word.upper() + " a",
                        "a " + word, word[:-1] + " a", word + "|a"):
                self.reads(row, NONE)

    def test_whatever_word_stands_there(self):
        for name in ("obj.main", "A", "7", "of", "~", "a.b.c", "book", "|", "(", "abcdefghijk", '"a"', "a~b"):
            for word in WITH_NAME:
                self.reads(word + " " + name, (word, name))
            self.reads("put " + name + " x", ("put", name, "x"))
            self.reads("put " + name, ("put", name, ""))

    def test_put(self):
        self.reads("put a x", ("put", "a", "x"))
        self.reads("put a", ("put", "a", ""))
        self.reads("put a ", ("put", "a", ""))
        self.reads("put a  ", ("put", "a", " "))
        self.reads("put a  x", ("put", "a", " x"))
        self.reads("put a x ", ("put", "a", "x "))
        self.reads("put a x y  z", ("put", "a", "x y  z"))
        self.reads("put a    x   ", ("put", "a", "   x   "))
        self.reads("put a = b", ("put", "a", "= b"))
        self.reads("put put put", ("put", "put", "put"))
        self.reads("put a |x", ("put", "a", "|x"))
        self.reads("put |a x", ("put", "|a", "x"))

    def test_line_ends_of_a_put(self):
        self.reads("put a ~", ("put", "a", "\n"))
        self.reads("put a x~y", ("put", "a", "x\ny"))
        self.reads("put a ~x~~y ~", ("put", "a", "\nx\n\ny \n"))
        self.reads("put a~b x", ("put", "a~b", "x"))
        self.reads("put ~", ("put", "~", ""))

    def test_puts_that_are_none(self):
        for row in ("put", "put ", "put  ", "put  a", "put  a x", "put   ", " put a x", "  put a", " put", "puta x", "put.a x",
                    "Put a x", "PUT a x", "a put b", "putt a x", "pu a x"):
            self.reads(row, NONE)

    def test_bars(self):
        self.reads("|", ("bar", ""))
        self.reads("| ", ("bar", ""))
        self.reads("|  ", ("bar", " "))
        self.reads("|a = b", ("bar", "a = b"))
        self.reads("| a = b", ("bar", "a = b"))
        self.reads("|  a = b ", ("bar", " a = b "))
        self.reads("||", ("bar", "|"))
        self.reads("| | a", ("bar", "| a"))
        self.reads("|book", ("bar", "book"))
        self.reads("| ~", ("bar", "~"))

    def test_bars_that_are_none(self):
        for row in (" |", " | a", "a | b", "a|", "book |", "  |a"):
            self.reads(row, NONE)

    def test_rows_without_words(self):
        for row in ("", " ", "      "):
            self.reads(row, ("nothing",))

    def test_any_other_row(self):
        for row in ("a", "#", "# book", "rule a", "given", "accounts", "log", "~", "=", ".", "none", "nothing", "bar a", "bar", "asks a"):
            self.reads(row, NONE)

    def test_the_argument_has_its_name(self):
        self.assertEqual(command_of(row="works"), ("works",))


if __name__ == "__main__":
    unittest.main()
