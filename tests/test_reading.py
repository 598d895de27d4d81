"""Recipes' texts, read as trees: promises 7, 8 and 9."""

import unittest

from thingyard.errors import BadRecipe
from thingyard.reading import read_recipe
from thingyard.trees import height_of, is_tree, size_of

ONE_PART = ("of", "back", "first", "rest", "count", "sorted", "fail")
WORDS = "of if is then else each do it back first rest count sorted fail line more".split()


def text(words):
    return ("text", words)


def thing(name):
    return ("thing", name)


class ReadingTest(unittest.TestCase):

    def reads(self, recipe, tree, family=None):
        for asked in (False, True) if family is None else (family,):
            with self.subTest(recipe=recipe[:80], family=asked):
                answer = read_recipe(recipe, asked)
                self.assertEqual(answer, tree)
                self.assertIs(type(answer), tuple)
                self.assertIs(is_tree(answer, asked, False), True)

    def refuses(self, recipe, place, family=None):
        for asked in (False, True) if family is None else (family,):
            with self.subTest(recipe=recipe[:80], family=asked):
                with self.assertRaises(BadRecipe) as taken:
                    read_recipe(recipe, asked)
                self.assertEqual(taken.exception.place, place)


class FormsTest(ReadingTest):

    def test_quotes(self):
        self.reads('""', text(""))
        self.reads('"a"', text("a"))
        self.reads('  " a  b "  ', text(" a  b "))
        self.reads('"if of )("', text("if of )("))
        self.reads('"' + "a" * 898 + '"', text("a" * 898))

    def test_single_words(self):
        self.reads("line", ("line",))
        self.reads(" line ", ("line",))
        self.reads("main", thing("main"))
        self.reads("obj.main", thing("obj.main"))
        self.reads("abcdefgh.stuvwxyz", thing("abcdefgh.stuvwxyz"))

    def test_words_of_families(self):
        self.reads("*", ("stem",), True)
        self.reads("obj.*", ("kin", "obj"), True)
        self.reads("abcdefgh.*", ("kin", "abcdefgh"), True)
        self.reads("obj.* * obj.main", ("join", ("kin", "obj"), ("stem",), thing("obj.main")), True)
        self.reads("if * is a.* then of * else (b.* *)",
                   ("if", ("stem",), ("kin", "a"), ("of", ("stem",)), ("join", ("kin", "b"), ("stem",))), True)

    def test_words_with_a_part_behind(self):
        for word in ONE_PART:
            self.reads(word + ' "a"', (word, text("a")))
            self.reads(word + "(main)", (word, thing("main")))
            self.reads(word + ' "a" "b"', ("join", (word, text("a")), text("b")))
            self.reads(word + ' ("a" "b")', (word, ("join", text("a"), text("b"))))
            self.reads(word + " " + word + " line", (word, (word, ("line",))))

    def test_if(self):
        self.reads('if a is b then c else d', ("if", thing("a"), thing("b"), thing("c"), thing("d")))
        self.reads('if"a"is"b"then"c"else"d"', ("if", text("a"), text("b"), text("c"), text("d")))
        self.reads('if a is b then c else d e', ("join", ("if", *map(thing, "abcd")), thing("e")))
        self.reads('if (a b) is of b then if c is d then e else f else g', (
            "if", ("join", thing("a"), thing("b")), ("of", thing("b")), ("if", *map(thing, "cdef")), thing("g")))

    def test_each(self):
        self.reads("each a do it", ("each", thing("a"), ("it",)))
        self.reads("each a do b", ("each", thing("a"), thing("b")))
        self.reads('each a do (it "b") c', ("join", ("each", thing("a"), ("join", ("it",), text("b"))), thing("c")))
        self.reads("each a do each it do of it", ("each", thing("a"), ("each", ("it",), ("of", ("it",)))))
        self.reads("each a do each b do it", ("each", thing("a"), ("each", thing("b"), ("it",))))
        self.reads("each each a do it do it", ("each", ("each", thing("a"), ("it",)), ("it",)))
        self.reads("each a do if it is it then it else it", ("each", thing("a"), ("if",) + (("it",),) * 4))

    def test_brackets(self):
        self.reads("(a)", thing("a"))
        self.reads("((( a )))", thing("a"))
        self.reads("(a b)", ("join", thing("a"), thing("b")))
        self.reads("((a b))", ("join", thing("a"), thing("b")))
        self.reads("(a b) c", ("join", ("join", thing("a"), thing("b")), thing("c")))
        self.reads("a (b) c", ("join", thing("a"), thing("b"), thing("c")))
        self.reads("((a b) (c))", ("join", ("join", thing("a"), thing("b")), thing("c")))
        self.reads("of(a)(b)", ("join", ("of", thing("a")), thing("b")))

    def test_whole_recipes(self):
        self.reads("a b", ("join", thing("a"), thing("b")))
        self.reads('a "b" line', ("join", thing("a"), text("b"), ("line",)))
        self.reads('"a""b"', ("join", text("a"), text("b")))
        self.reads('count each sorted src do ("-" it line)',
                   ("count", ("each", ("sorted", thing("src")), ("join", text("-"), ("it",), ("line",)))))

    def test_quotes_are_no_words(self):
        self.reads('"line" "it" "(" ")" "*" "of"', ("join", *map(text, ["line", "it", "(", ")", "*", "of"])))
        self.refuses('if a "is" b then c else d', 5)
        self.refuses('each a "do" b', 7)

    def test_long_texts_are_not_refused(self):
        self.reads(" " * 950 + "a", thing("a"))
        self.reads('"' + "a" * 895 + '"' + " " * 60, text("a" * 895))

    def test_the_arguments_have_their_names(self):
        self.assertEqual(read_recipe(text="*", family=True), ("stem",))

    def test_reading_twice(self):
        self.assertEqual(read_recipe("a b", False), read_recipe("a b", False))


class TokensFirstTest(ReadingTest):

    def test_signs_that_begin_no_token(self):
        self.refuses("A", 0)
        self.refuses("a 7", 2)
        self.refuses("a b=", 3)
        self.refuses('a "b', 2)
        self.refuses("|", 0)

    def test_they_are_told_ahead_of_any_other_fault(self):
        self.refuses(") 7", 2)
        self.refuses("it it 7", 6)
        self.refuses("of is then !", 11)
        self.refuses('more "a', 5)
        self.refuses("(" * 41 + "a" + ")" * 41 + " ?", 84)
        self.refuses("a.b.c ~", 6)
        self.refuses("a " * 150 + "7", 300)
        self.refuses("( #", 2)


class PlacesTest(ReadingTest):

    def test_texts_that_end_too_early(self):
        for recipe in ("", "   ", "(", "( ", "(a", "(a ", "of", "of ", "if", "if a", "if a is", "if a is b", "if a is b then",
                       "if a is b then c", "if a is b then c else", "each", "each a", "each a do", "each a do  ",
                       "a (b", "a of", "((a)", "of (", "of of of", "each a do (it"):
            self.refuses(recipe, len(recipe))
        for word in ONE_PART:
            self.refuses(word, len(word))
            self.refuses("a " + word + "   ", len(word) + 5)

    def test_words_out_of_place(self):
        for word in ("is", "then", "else", "do", "more"):
            self.refuses(word, 0)
            self.refuses("a " + word, 2)
            self.refuses("of " + word + " a", 3)
            self.refuses("(a " + word + ")", 3)
            self.refuses("if " + word, 3)
        self.refuses("if a then b else c", 5)
        self.refuses("if a is b else c", 10)
        self.refuses("if a is b then c is d", 17)
        self.refuses("if a b is c then d else e", 5)
        self.refuses("if a is b c then d else e", 10)
        self.refuses("if a is b then c d else e", 17)
        self.refuses("each a b do c", 7)
        self.refuses("each a is b", 7)
        self.refuses("each do a", 5)

    def test_words_that_are_no_names(self):
        for word in ("abcdefghi", "a.b.c", ".", "..", "a.", ".a", "a..b", "**", "a*", "*a", "*.a", "a.**", "a.b.*", ".*",
                     "*.*", "of.a", "a.of", "line.a", "more.more"):
            self.refuses(word, 0)
            self.refuses("a " + word + " b", 2)
        for word in WORDS:
            self.refuses("  " + word + ".*", 2)

    def test_closing_brackets(self):
        self.refuses(")", 0)
        self.refuses("()", 1)
        self.refuses("a )", 2)
        self.refuses("(a))", 3)
        self.refuses("of )", 3)
        self.refuses("(of)", 3)
        self.refuses("if a ) b", 5)
        self.refuses("(if a is b then c else)", 22)
        self.refuses("(each a)", 7)

    def test_it_outside_of_the_part_behind_do(self):
        self.refuses("it", 0)
        self.refuses("a it", 2)
        self.refuses("of it", 3)
        self.refuses("each it do a", 5)
        self.refuses("each a do it it", 13)
        self.refuses("(each a do it) it", 15)
        self.refuses("each (each a do it it) do it", 19)
        self.refuses("if a is it then b else c", 8)

    def test_words_of_families_for_no_family(self):
        self.refuses("*", 0, False)
        self.refuses("a.*", 0, False)
        self.refuses("a *", 2, False)
        self.refuses("a b.*", 2, False)
        self.refuses("of (a b.*)", 6, False)
        self.refuses("each a do *", 10, False)

    def test_the_first_fault_is_told(self):
        self.refuses("is )", 0)
        self.refuses("a ) is", 2)
        self.refuses("(it", 1)
        self.refuses("it (", 0)
        self.refuses("of", 2)
        self.refuses("of is of", 3)


class BoundsTest(ReadingTest):

    def test_forty_deep(self):
        self.reads("(" * 39 + "a" + ")" * 39, thing("a"))
        self.refuses("(" * 40 + "a" + ")" * 40, 40)
        self.refuses("(" * 41 + "a" + ")" * 41, 40)
        self.refuses(" ( " * 40 + " abc" + ")" * 40, 121)
        self.refuses("(" * 40 + "a", 40)
        self.refuses("(" * 40, 40)
        self.refuses("(" * 40 + "  ", 42)
        self.refuses("(" * 39, 39)
        self.refuses("(" * 40 + ")", 40)
        self.refuses("(" * 300 + "a" + ")" * 300, 40)
        self.refuses("(" * 900, 40)

    def test_a_later_part_that_is_too_deep(self):
        self.refuses("a b " + "(" * 40 + "c" + ")" * 40, 44)
        self.reads("(" * 39 + "a b" + ")" * 39, ("join", thing("a"), thing("b")))
        self.refuses("(" * 39 + "a (b)" + ")" * 39, 42)

    def test_words_make_deeper_too(self):
        inner = 'back first rest count sorted '
        self.reads("(" * 34 + inner + "a" + ")" * 34, read_recipe(inner + "a", False))
        self.refuses("(" * 35 + inner + "a" + ")" * 35, 35 + len(inner))
        self.refuses("(" * 39 + "of a" + ")" * 39, 42)
        self.refuses("(" * 39 + "if a is b then c else d" + ")" * 39, 42)
        self.refuses("(" * 39 + "each a do it" + ")" * 39, 44)
        self.refuses("of " * 40 + "a", 120)
        self.refuses("of " * 300 + "a", 120)

    def test_each_part_of_an_if_and_an_each_is_one_deeper(self):
        for recipe in ("if X is b then c else d", "if a is X then c else d", "if a is b then X else d",
                       "if a is b then c else X", "each X do b", "each a do X"):
            deep = recipe.replace("X", "(" * 39 + "e" + ")" * 39)
            self.refuses(deep, recipe.index("X") + 39)
            self.assertIsNotNone(read_recipe(recipe.replace("X", "(" * 38 + "e" + ")" * 38), False))

    def test_a_fault_ahead_of_what_is_too_deep(self):
        self.refuses("is " + "(" * 41 + "a", 0)
        self.refuses("(" * 41 + "is", 40)

    def test_heights(self):
        high = "back " * 11 + "a"
        self.assertEqual(height_of(read_recipe(high, False)), 12)
        for tail in ("", " ", "     "):
            self.refuses("back " + high + tail, len(high) + 5 + len(tail))
            self.refuses("back " * 38 + "a" + tail, 38 * 5 + 1 + len(tail))
        self.refuses(high + " b", len(high) + 2)
        self.assertEqual(height_of(read_recipe("back " * 10 + "a b", False)), 12)
        self.refuses("b " + high + "  ", len(high) + 4)

    def test_brackets_of_one_part_make_nothing_higher(self):
        self.assertEqual(height_of(read_recipe("(" * 20 + "back (" * 5 + "a" + ")" * 25, False)), 6)

    def test_sizes(self):
        self.assertEqual(size_of(read_recipe("a " * 99, False)), 100)
        self.assertEqual(size_of(read_recipe("of a " + "a " * 97, False)), 100)
        self.refuses("a " * 100, 200)
        self.refuses("a " * 100 + "   ", 203)
        self.refuses("of a " + "a " * 98, 201)
        self.refuses("a " * 449 + "a", 899)
        self.assertEqual(size_of(read_recipe("((" + "a " * 99 + "))", False)), 100)

    def test_bounds_are_told_behind_all_other_faults(self):
        self.refuses("a " * 120 + ")", 240)
        self.refuses("a " * 120 + "of", 242)
        self.refuses("a " * 120 + "it b", 240)
        self.refuses("back " * 20 + "a )", 102)
        self.refuses("back " * 20 + "a " + "(" * 41, 142)
        self.refuses("back " * 20 + "a " + "(" * 40 + "b", 142)

    def test_what_is_refused_changes_nothing(self):
        self.refuses("a )", 2)
        self.reads("a", thing("a"))


if __name__ == "__main__":
    unittest.main()
