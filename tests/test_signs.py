"""Texts, names and words: promises 3, 4 and 5."""

import unittest

from thingyard.signs import family_of, is_name, is_plain, is_text, stem_of, words_of

WORDS = "of if is then else each do it back first rest count sorted fail line more".split()
TEXT_SIGNS = [chr(code) for code in range(32, 127) if code != 37]
FOREIGN_SIGNS = [chr(code) for code in range(32) if code != 10] + [
    chr(127), "\x80", "\x85", "\xa0", "\xe9", "\u0131", "\u2028", "\u3000", "\uff41", "\ud800", "\U0001f600",
]
OTHER_KINDS = [
    0, 1, -1, 10 ** 30, True, False, None, 1.5, b"", b"a", [], ["a"], (), ("a",), {}, {"a": "a"}, {"a"},
    object(), str, len,
]


class Answers(unittest.TestCase):

    def says(self, asked, thing, answer):
        with self.subTest(thing=repr(thing)[:60]):
            self.assertIs(asked(thing), answer)


class IsTextTest(Answers):

    def test_lengths(self):
        for length in (0, 1, 2, 899, 900):
            self.says(is_text, "a" * length, True)
        for length in (901, 902, 5000):
            self.says(is_text, "a" * length, False)

    def test_line_ends_count_as_signs(self):
        self.says(is_text, "\n" * 900, True)
        self.says(is_text, "\n" * 901, False)
        self.says(is_text, "a" * 900 + "\n", False)
        self.says(is_text, " " * 900, True)
        self.says(is_text, " " * 901, False)

    def test_each_sign_of_a_text(self):
        self.assertIn(" ", TEXT_SIGNS)
        self.assertIn("~", TEXT_SIGNS)
        for sign in TEXT_SIGNS + ["\n"]:
            self.says(is_text, sign, True)
            self.says(is_text, "ab" + sign, True)
        self.says(is_text, "".join(TEXT_SIGNS) + "\n", True)

    def test_line_ends_anywhere(self):
        for text in ("\n", "\n\n", "\na", "a\n", "a\nb", " \n "):
            self.says(is_text, text, True)

    def test_foreign_signs(self):
        for sign in FOREIGN_SIGNS:
            self.says(is_text, sign, False)
            self.says(is_text, sign + "ab", False)
            self.says(is_text, "a" + sign + "b", False)
            self.says(is_text, "ab" + sign, False)
        self.says(is_text, "a\r\nb", False)

    def test_other_kinds(self):
        for thing in OTHER_KINDS:
            self.says(is_text, thing, False)

    def test_the_argument_has_its_name(self):
        self.assertIs(is_text(thing="a"), True)


class IsPlainTest(Answers):

    def test_lengths(self):
        for name in ("a", "z", "ab", "abcdefg", "abcdefgh", "stuvwxyz"):
            self.says(is_plain, name, True)
        for thing in ("", "abcdefghi", "a" * 900, "a" * 5000):
            self.says(is_plain, thing, False)

    def test_each_letter(self):
        for letter in "abcdefghijklmnopqrstuvwxyz":
            self.says(is_plain, letter, True)
            self.says(is_plain, "x" + letter + "x", True)

    def test_other_signs(self):
        for sign in TEXT_SIGNS + ["\n"] + FOREIGN_SIGNS:
            if not "a" <= sign <= "z":
                self.says(is_plain, sign, False)
                self.says(is_plain, sign + "ab", False)
                self.says(is_plain, "a" + sign + "b", False)
                self.says(is_plain, "ab" + sign, False)

    def test_the_sixteen_words(self):
        self.assertEqual(len(WORDS), 16)
        for word in WORDS:
            self.says(is_plain, word, False)
            self.says(is_plain, word + "x", True)
            self.says(is_plain, "x" + word, True)
            self.says(is_plain, word[1:], True)
            self.says(is_plain, word[:-1], True)

    def test_words_that_are_none_of_the_sixteen(self):
        for name in ("stem", "thing", "kin", "text", "join", "and", "or", "not", "in", "for", "none", "ofif"):
            self.says(is_plain, name, True)

    def test_names_with_points_are_not_plain(self):
        for thing in ("obj.main", "a.b", ".", "a.", ".a", "obj.*"):
            self.says(is_plain, thing, False)

    def test_other_kinds(self):
        for thing in OTHER_KINDS:
            self.says(is_plain, thing, False)

    def test_the_argument_has_its_name(self):
        self.assertIs(is_plain(thing="a"), True)


class IsNameTest(Answers):

    def test_plain_names(self):
        for name in ("a", "z", "main", "abcdefgh"):
            self.says(is_name, name, True)
        for thing in ("", "abcdefghi", "Main", "main1", "ma in", " main", "main ", "\nmain", "main\n"):
            self.says(is_name, thing, False)

    def test_families_and_stems(self):
        for name in ("obj.main", "a.b", "a.a", "abcdefgh.abcdefgh", "a.abcdefgh", "abcdefgh.a"):
            self.says(is_name, name, True)

    def test_too_long_on_either_side(self):
        for thing in ("abcdefghi.a", "a.abcdefghi", "abcdefghi.abcdefghi"):
            self.says(is_name, thing, False)

    def test_points(self):
        for thing in (".", "..", ".a", "a.", ".a.", "a..b", "a.b.c", "a.b.", ".a.b", "a.b.c.d"):
            self.says(is_name, thing, False)

    def test_wrong_signs_on_either_side(self):
        for sign in ("A", "Z", "0", "9", " ", "\n", "\t", "*", "-", "\xe9"):
            for thing in (sign + "a.b", "a" + sign + ".b", "a." + sign + "b", "a.b" + sign, sign + ".b", "a." + sign):
                self.says(is_name, thing, False)

    def test_other_partings_than_a_point(self):
        for thing in ("a b", "a,b", "a:b", "a\nb", "a*b", "a-b", "a/b"):
            self.says(is_name, thing, False)

    def test_the_sixteen_words(self):
        for word in WORDS:
            self.says(is_name, word, False)
            self.says(is_name, word + ".a", False)
            self.says(is_name, "a." + word, False)
            self.says(is_name, word + "." + word, False)
            for near in (word + "x", word[:-1]):
                self.says(is_name, near, True)
                self.says(is_name, near + ".a", True)
                self.says(is_name, "a." + near, True)

    def test_other_kinds(self):
        for thing in OTHER_KINDS + [("a", "b"), ["a", "b"]]:
            self.says(is_name, thing, False)

    def test_the_argument_has_its_name(self):
        self.assertIs(is_name(thing="a.b"), True)


class FamilyAndStemTest(unittest.TestCase):

    def test_names_with_a_point(self):
        for family, stem in (("obj", "main"), ("a", "b"), ("a", "a"), ("abcdefgh", "stuvwxyz"), ("a", "stuvwxyz")):
            name = family + "." + stem
            with self.subTest(name=name):
                self.assertEqual(family_of(name), family)
                self.assertEqual(stem_of(name), stem)

    def test_plain_names_have_none(self):
        for name in ("a", "main", "abcdefgh"):
            with self.subTest(name=name):
                self.assertIsNone(family_of(name))
                self.assertIsNone(stem_of(name))

    def test_the_arguments_have_their_names(self):
        self.assertEqual(family_of(name="obj.main"), "obj")
        self.assertEqual(stem_of(name="obj.main"), "main")


class WordsOfTest(unittest.TestCase):

    def words(self, text, answer):
        with self.subTest(text=text[:60]):
            words = words_of(text)
            self.assertIs(type(words), list)
            self.assertEqual(words, answer)

    def test_no_words(self):
        for text in ("", " ", "    ", "\n", "\n\n\n", " \n \n ", "\n "):
            self.words(text, [])

    def test_one_word(self):
        for text in ("main", " main", "main ", "\nmain", "main\n", " \n main \n\n "):
            self.words(text, ["main"])
        self.words("a", ["a"])
        self.words("a" * 900, ["a" * 900])

    def test_many_words(self):
        self.words("one two three", ["one", "two", "three"])
        self.words("one\ntwo\nthree", ["one", "two", "three"])
        self.words("  one   two \n\n three\n ", ["one", "two", "three"])
        self.words("b a b a", ["b", "a", "b", "a"])
        self.words("a " * 450, ["a"] * 450)

    def test_any_other_sign_belongs_to_a_word(self):
        for sign in TEXT_SIGNS:
            if sign != " ":
                self.words(sign, [sign])
                self.words("a" + sign + "b c", ["a" + sign + "b", "c"])
        self.words('"a b" (c.*) ~', ['"a', 'b"', "(c.*)", "~"])

    def test_a_list_that_came_back_is_the_askers_own(self):
        text = "one two"
        words = words_of(text)
        words.clear()
        self.assertEqual(words_of(text), ["one", "two"])
        words = words_of(text)
        words[0] = "other"
        self.assertEqual(words_of(text), ["one", "two"])
        empty = words_of("")
        empty.append("one")
        self.assertEqual(words_of(""), [])

    def test_what_came_back_is_not_changed_later(self):
        words = words_of("one two")
        words_of("three")
        self.assertEqual(words, ["one", "two"])

    def test_the_argument_has_its_name(self):
        self.assertEqual(words_of(text="a b"), ["a", "b"])


if __name__ == "__main__":
    unittest.main()
