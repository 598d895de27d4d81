"""A recipe's text, cut into tokens: promise 6."""

import unittest

from thingyard.errors import BadRecipe
from thingyard.tokens import tokens_of

TEXT_SIGNS = [chr(code) for code in range(32, 127) if code != 37]
LETTERS = "abcdefghijklmnopqrstuvwxyz"
FOREIGN_SIGNS = ["\t", "\r", "\x00", "\x0b", "\x1f", "\x7f", "\x85", "\xa0", "\xe9", "\u2028", "\uff41", "\U0001f600"]


class TokensTest(unittest.TestCase):

    def cut(self, text, answer):
        with self.subTest(text=text[:60]):
            tokens = tokens_of(text)
            self.assertIs(type(tokens), list)
            self.assertEqual(tokens, answer)
            for token in tokens:
                self.assertEqual([type(value) for value in token], [str, str, int])
                self.assertIs(type(token), tuple)

    def refused(self, text, place):
        with self.subTest(text=text[:60]):
            with self.assertRaises(BadRecipe) as taken:
                tokens_of(text)
            self.assertEqual(taken.exception.place, place)


class TakenTest(TokensTest):

    def test_no_tokens(self):
        for text in ("", " ", "     "):
            self.cut(text, [])

    def test_a_word(self):
        for word in ("a", "z", "main", "obj.main", "obj.*", "*", ".", "..", "**", "a..b", ".*.a", "abcdefghi", "a.b.c"):
            self.cut(word, [("word", word, 0)])
            self.cut("  " + word + "  ", [("word", word, 2)])

    def test_the_sixteen_words_are_words_too(self):
        for word in "of if is then else each do it back first rest count sorted fail line more".split():
            self.cut(word, [("word", word, 0)])

    def test_each_sign_of_a_word(self):
        for sign in LETTERS + ".*":
            self.cut(sign, [("word", sign, 0)])
            self.cut("a" + sign + "a", [("word", "a" + sign + "a", 0)])

    def test_a_quote(self):
        self.cut('"a"', [("quote", "a", 0)])
        self.cut('  "main"  ', [("quote", "main", 2)])
        self.cut('""', [("quote", "", 0)])
        self.cut('" "', [("quote", " ", 0)])
        self.cut('"  a  b  "', [("quote", "  a  b  ", 0)])
        self.cut('"(a) * b.* )("', [("quote", "(a) * b.* )(", 0)])

    def test_each_sign_within_a_quote(self):
        for sign in TEXT_SIGNS:
            if sign != '"':
                self.cut('"' + sign + '"', [("quote", sign, 0)])
                self.cut('"a' + sign + 'b"', [("quote", "a" + sign + "b", 0)])

    def test_brackets(self):
        self.cut("(", [("bracket", "(", 0)])
        self.cut(")", [("bracket", ")", 0)])
        self.cut("()", [("bracket", "(", 0), ("bracket", ")", 1)])
        self.cut(" )) ( ", [("bracket", ")", 1), ("bracket", ")", 2), ("bracket", "(", 4)])

    def test_blanks_between(self):
        self.cut("a b", [("word", "a", 0), ("word", "b", 2)])
        self.cut("  ab   cd.*  ", [("word", "ab", 2), ("word", "cd.*", 7)])
        self.cut('"a" "b"', [("quote", "a", 0), ("quote", "b", 4)])
        self.cut('( "" )', [("bracket", "(", 0), ("quote", "", 2), ("bracket", ")", 5)])

    def test_right_beside_one_another(self):
        self.cut('a"b"', [("word", "a", 0), ("quote", "b", 1)])
        self.cut('"b"a', [("quote", "b", 0), ("word", "a", 3)])
        self.cut('"a""b"', [("quote", "a", 0), ("quote", "b", 3)])
        self.cut('""""', [("quote", "", 0), ("quote", "", 2)])
        self.cut("(a)", [("bracket", "(", 0), ("word", "a", 1), ("bracket", ")", 2)])
        self.cut("a(b", [("word", "a", 0), ("bracket", "(", 1), ("word", "b", 2)])
        self.cut('("")', [("bracket", "(", 0), ("quote", "", 1), ("bracket", ")", 3)])
        self.cut('a*"b c"(d.*)e', [
            ("word", "a*", 0), ("quote", "b c", 2), ("bracket", "(", 7), ("word", "d.*", 8),
            ("bracket", ")", 11), ("word", "e", 12),
        ])

    def test_a_whole_recipe(self):
        self.cut('if count src.* is "2" then (of "a" line) else fail *', [
            ("word", "if", 0), ("word", "count", 3), ("word", "src.*", 9), ("word", "is", 15),
            ("quote", "2", 18), ("word", "then", 22), ("bracket", "(", 27), ("word", "of", 28),
            ("quote", "a", 31), ("word", "line", 35), ("bracket", ")", 39), ("word", "else", 41),
            ("word", "fail", 46), ("word", "*", 51),
        ])

    def test_long_texts(self):
        self.cut("a" * 900, [("word", "a" * 900, 0)])
        self.cut('"' + "a" * 898 + '"', [("quote", "a" * 898, 0)])
        self.cut("a " * 450, [("word", "a", 2 * k) for k in range(450)])
        self.cut("(" * 900, [("bracket", "(", k) for k in range(900)])

    def test_nothing_is_refused_for_its_length(self):
        self.cut("a" * 950, [("word", "a" * 950, 0)])
        self.cut('"' + "a" * 950 + '" b', [("quote", "a" * 950, 0), ("word", "b", 953)])

    def test_a_list_that_came_back_is_the_askers_own(self):
        text = 'a "b" )'
        answer = [("word", "a", 0), ("quote", "b", 2), ("bracket", ")", 6)]
        tokens = tokens_of(text)
        tokens.clear()
        self.cut(text, answer)
        tokens = tokens_of(text)
        tokens.append(("word", "c", 8))
        self.cut(text, answer)
        empty = tokens_of("")
        empty.append(("word", "c", 0))
        self.cut("", [])

    def test_what_came_back_is_not_changed_later(self):
        tokens = tokens_of("a b")
        tokens_of("c")
        self.assertEqual(tokens, [("word", "a", 0), ("word", "b", 2)])

    def test_the_argument_has_its_name(self):
        self.assertEqual(tokens_of(text="a"), [("word", "a", 0)])


class RefusedTest(TokensTest):

    def test_signs_that_begin_no_token(self):
        for sign in TEXT_SIGNS + FOREIGN_SIGNS + ["\n"]:
            if sign not in LETTERS + '.*()" ':
                self.refused(sign, 0)
                self.refused("  " + sign, 2)
                self.refused("ab" + sign, 2)
                self.refused("ab " + sign + " cd", 3)
                self.refused('("")' + sign, 4)

    def test_line_ends(self):
        self.refused("\n", 0)
        self.refused("a\n", 1)
        self.refused("\na", 0)
        self.refused("a b\nc", 3)
        self.refused('"a"\n"b"', 3)

    def test_great_letters_and_figures_within_words(self):
        self.refused("Main", 0)
        self.refused("maIn", 2)
        self.refused("main1", 4)
        self.refused("obj.*_", 5)

    def test_quotes_that_do_not_end(self):
        self.refused('"', 0)
        self.refused('"a', 0)
        self.refused('  "a b ', 2)
        self.refused('a"', 1)
        self.refused('"""', 2)
        self.refused('"a" "', 4)
        self.refused('"a" (b) "c) d', 8)
        self.refused('ab "' + "c" * 900, 3)

    def test_line_ends_within_quotes(self):
        self.refused('"\n"', 0)
        self.refused('"a\n"', 0)
        self.refused('ab "c\nd" e', 3)
        self.refused('ab "c\nd', 3)
        self.refused('"a" "\n" "b"', 4)

    def test_foreign_signs_within_quotes(self):
        for sign in FOREIGN_SIGNS:
            self.refused('"' + sign + '"', 0)
            self.refused('ab "c' + sign + 'd" e', 3)
            self.refused('ab "c' + sign, 3)

    def test_the_leftmost_fault_is_told(self):
        self.refused('9 "a', 0)
        self.refused('"a" 9 "b', 4)
        self.refused('"a\n" 9', 0)
        self.refused('a\n"b', 1)
        self.refused("a A B", 2)

    def test_what_is_refused_changes_nothing(self):
        self.refused("a 9", 2)
        self.cut("a", [("word", "a", 0)])
        self.refused("a 9", 2)


if __name__ == "__main__":
    unittest.main()
