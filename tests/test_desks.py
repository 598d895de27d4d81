"""Desks: promises 28 and 29."""

import unittest

from plain import stems
from thingyard.desks import answers_of


def rows(*texts):
    return "\n".join(texts)


class DesksTest(unittest.TestCase):

    def answers(self, text, answers):
        with self.subTest(text=text[:60]):
            found = answers_of(text)
            self.assertEqual(found, answers)
            self.assertIs(type(found), list)


class AnswersTest(DesksTest):

    def test_texts_without_rows(self):
        for text in ("", " ", "\n", "\n\n\n", "   \n  \n"):
            self.answers(text, [])

    def test_rows_without_words_say_nothing(self):
        self.answers("\n\nput a x\n\n   \nask a\n\n", ["ok", "text x"])

    def test_at_first(self):
        self.answers("works\nask a\nwhy a\nleaners a", ["0", "fails no rule", "fails no rule by nothing", "none"])

    def test_put_and_drop(self):
        self.answers("put a x\nask a\ndrop a\nask a\ndrop a", ["ok", "text x", "ok", "fails no rule", "refused"])
        self.answers("put a\nask a\nput a  \nask a", ["ok", "text ", "ok", "text  "])
        self.answers("put A x\nput of x\nput a.b.c x\ndrop A\ndrop a b", ["refused", "refused", "refused", "refused", "no row"])
        self.answers("put a " + "x" * 901 + "\nput a " + "x" * 900, ["refused", "ok"])
        self.answers("  drop   a  \nput a x\n  drop   a  ", ["refused", "ok", "ok"])

    def test_ask(self):
        text = rows("book", "| a = b \"!\"", "| c = fail b", "| d = c", "| e = f", "| f = g", "| g = e", "| h = f", "put b x")
        self.answers(text + "\nask a\nask b\nask c\nask d\nask e\nask h\nask z", [
            "ok", "ok", "text x!", "text x", "fails x", "stopped c", "ring e f g", "stopped f", "fails no rule"])
        self.answers("ask A\nask 7\nask of\nask ~\nask a.b.c", ["refused"] * 5)

    def test_why(self):
        text = rows("book", "|a = b c", "|d = e", "|e = d", "|f = e", "|g = fail \"w\"", "put b x", "put c y")
        self.answers(text + "\nwhy a\nwhy b\nwhy d\nwhy f\nwhy g\nwhy z\nwhy A", [
            "ok", "ok", "ok", "text xy by b c", "text x by nothing", "ring d e by e", "stopped e by e", "fails w by nothing",
            "fails no rule by nothing", "refused"])

    def test_books_things(self):
        self.answers(rows("book", "|more lib", "put lib a = \"x\" line~b = a", "ask b", "why b", "ask c", "put lib ~?", "why b"), [
            "ok", "ok", "text x~", "text x~ by lib a", "fails no rule", "ok", "fails no book by lib"])

    def test_line_ends_are_told(self):
        self.answers("put a x~y~\nask a\nwhy a", ["ok", "text x~y~", "text x~y~ by nothing"])
        self.answers(rows("book", "|a = \"x\" line \"~\"", "|b = fail a", "ask a", "ask b"), ["ok", "text x~~", "fails x~~"])

    def test_leaners(self):
        text = rows("book", "|c = a b", "|b = a", "|d = c", "|e = e", "put a x")
        self.answers(text + "\nleaners a\nask d\nleaners a\nleaners b\nleaners c\nleaners d\nleaners e\nask e\nleaners e", [
            "ok", "ok", "none", "text xx", "b c d", "c d", "d", "none", "none", "ring e", "e"])
        self.answers("leaners A\nleaners 7\nleaners a.b.c\nleaners of\nleaners ~", ["none"] * 5)
        self.answers(text + "\nask d\nput b y\nleaners a\nleaners b", ["ok", "ok", "text xx", "ok", "none", "none"])
        self.answers("leaners\nleaners a b", ["no row", "no row"])

    def test_works(self):
        self.answers(rows("works", "book", "|a = b", "|c = b", "put b x", "ask a", "works", "ask c", "works", "put b y", "ask a", "works",
                          "book", "works", "works a"), [
            "0", "ok", "ok", "text x", "2", "text x", "2", "ok", "text y", "3", "ok", "3", "no row"])

    def test_any_other_row(self):
        self.answers("x\nput\nput  a x\n put a x\nask\nask a b\nbook x\n|a = b\n| \nworks 1\n#", ["no row"] * 11)

    def test_what_is_refused_changes_nothing(self):
        self.answers("put a x\nput a \t\nask a\ndrop b\nask a".replace("\t", "y" * 901), ["ok", "refused", "text x", "refused", "text x"])


class BooksTest(DesksTest):

    def test_books(self):
        self.answers(rows("book", "|a = \"x\"", "| b = a", "|  c = b", "ask c"), ["ok", "text x"])
        self.answers(rows("  book  ", "|# first", "|", "| ", "| a = \"x\"", "ask a"), ["ok", "text x"])
        self.answers(rows("book", "|a = \"x\""), ["ok"])

    def test_empty_books(self):
        self.answers("book", ["ok"])
        self.answers("book\nask a", ["ok", "fails no rule"])
        self.answers(rows("book", "|a = \"x\"", "ask a", "book", "ask a"), ["ok", "text x", "ok", "fails no rule"])
        self.answers(rows("book", "|", "ask a"), ["ok", "fails no rule"])

    def test_books_ended_by_each_kind_of_row(self):
        begin = rows("book", "|a = \"x\"") + "\n"
        for row, answer in (("", []), ("   ", []), ("put b x", ["ok"]), ("drop b", ["refused"]), ("ask b", ["fails no rule"]),
                            ("why b", ["fails no rule by nothing"]), ("leaners b", ["none"]), ("works", ["0"]), ("x", ["no row"]),
                            (" |b = \"y\"", ["no row"])):
            self.answers(begin + row + "\n|b = \"y\"\nask a\nask b", ["ok"] + answer + ["no row", "text x"] + (
                ["text x"] if row == "put b x" else ["fails no rule"]))
        self.answers(begin + "book\n|b = \"y\"\nask a\nask b", ["ok", "ok", "fails no rule", "text y"])

    def test_books_that_are_refused(self):
        self.answers(rows("book", "|a"), ["refused 1 0"])
        self.answers(rows("book", "| a = )", "ask a"), ["refused 1 4", "fails no rule"])
        self.answers(rows("book", "|", "|# x", "|   a b"), ["refused 3 2"])
        self.answers(rows("book", "|a = b", "|  a = b"), ["refused 2 1"])
        self.answers(rows("book", "|a = b  ", "|more c", "|more c"), ["refused 3 5"])
        self.answers(rows("book", "| a =  "), ["refused 1 5"])

    def test_a_book_that_is_refused_leaves_the_other(self):
        self.answers(rows("book", "|a = \"x\"", "book", "|a = \"y\"", "|b", "ask a"), ["ok", "refused 2 0", "text x"])

    def test_books_that_are_too_long(self):
        self.answers(rows("book", "|#" + "x" * 899, "works"), ["ok", "0"])
        self.answers(rows("book", "|#" + "x" * 900, "works"), ["refused", "0"])
        self.answers(rows("book", *["| =" + "x" * 90] * 10), ["refused"])
        self.answers(rows("book", *["|#" + "x" * 90] * 9, "works"), ["ok", "0"])

    def test_tildes_of_books_stay(self):
        self.answers(rows("book", "|a = \"~\"", "|b = if a is \"~\" then \"same\" else \"other\"", "ask b"), ["ok", "text same"])

    def test_given_texts_outlive_a_book(self):
        self.answers(rows("put a x", "book", "|b = a", "ask b", "book", "|c = a", "ask b", "ask c"), [
            "ok", "ok", "text x", "ok", "fails no rule", "text x"])


class WholeTest(DesksTest):

    def test_two_desks_have_nothing_in_common(self):
        self.answers("put a x\nask a\nworks", ["ok", "text x", "0"])
        self.answers("ask a", ["fails no rule"])

    def test_long_texts(self):
        self.answers("put a x\n" * 3000 + "ask a", ["ok"] * 3000 + ["text x"])
        names = ["n." + "".join(chr(97 + k // 26 ** place % 26) for place in range(3)) for k in range(1500)]
        puts = ["put go" + name[1:] + " " + other for name, other in zip(names, names[1:] + ["end"])]
        found = answers_of(rows("book", "|n.* = of go.*", *puts, "put end done", "ask " + names[0], "leaners end"))
        self.assertEqual(found[:-2], ["ok"] * 1502)
        self.assertEqual(found[-2:], ["text done", " ".join(sorted(names))])

    def test_the_shelf_keeps_1000(self):
        puts = ["put s." + stem + " x" for stem in stems(501)]
        asks = ["ask n." + stem for stem in stems(500)]
        book = ["book", "|n.* = * s.*"]
        found = answers_of(rows(*puts, *book, *asks, "works", *book, *asks, "works", "ask n." + stems(501)[-1], *book, asks[-1], "works",
                                asks[0], "works"))
        self.assertEqual([answer for answer in found if answer.isdigit()], ["1000", "1000", "1002", "1004"])

    def test_the_list_is_the_askers_own(self):
        answers_of("works").append("x")
        self.answers("works", ["0"])

    def test_the_argument_has_its_name(self):
        self.assertEqual(answers_of(text="works"), ["0"])


if __name__ == "__main__":
    unittest.main()
