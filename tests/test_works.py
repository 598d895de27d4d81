"""Recipes worked from answers: promises 15, 16 and 17."""

import random
import reprlib
import unittest

from thingyard.reading import read_recipe
from thingyard.signs import is_name
from thingyard.works import worked

LONG = "x" * 900


def text(words):
    return ("text", words)


def thing(name):
    return ("thing", name)


class WorksTest(unittest.TestCase):

    def comes(self, recipe, came, used=(), answers=None, stem=None):
        tree = read_recipe(recipe, stem is not None) if isinstance(recipe, str) else recipe
        answers = {} if answers is None else answers
        before = dict(answers)
        with self.subTest(recipe=reprlib.repr(recipe)):
            answer = worked(tree, stem, answers)
            self.assertEqual(answer, (came, list(used)))
            self.assertEqual([type(answer), type(answer[0]), type(answer[1])], [tuple, tuple, list])
            self.assertEqual(answers, before)
            self.assertEqual(list(answers), list(before))

    def texts(self, recipe, words, used=(), answers=None, stem=None):
        self.comes(recipe, ("text", words), used, answers, stem)

    def fails(self, recipe, words, used=(), answers=None, stem=None):
        self.comes(recipe, ("fails", words), used, answers, stem)

    def asks(self, recipe, name, used=(), answers=None, stem=None):
        self.comes(recipe, ("asks", name), used, answers, stem)


class KindsTest(WorksTest):

    def test_bare_parts(self):
        self.texts('""', "")
        self.texts('" a  b "', " a  b ")
        self.texts("line", "\n")
        self.texts("*", "main", stem="main")

    def test_things(self):
        self.texts("a", "x", ["a"], {"a": "x"})
        self.texts("obj.a", "x\ny", ["obj.a"], {"obj.a": "x\ny", "a": "no"})
        self.asks("a", "a")
        self.asks("a", "a", [], {"b": "x"})
        self.asks("obj.a", "obj.a", [], {"a": "x", "obj": "y"})
        self.texts("a", "", ["a"], {"a": ""})

    def test_kins(self):
        self.texts("src.*", "x", ["src.main"], {"src.main": "x"}, "main")
        self.asks("src.*", "src.main", [], {"src": "x", "main": "y", "src.mai": "z"}, "main")

    def test_joins(self):
        self.texts('"a" "b" line "c"', "ab\nc")
        self.texts('"" ""', "")
        self.texts('a "-" b', "x-y", ["a", "b"], {"a": "x", "b": "y"})
        self.texts('("a" "b") ("c" ("d" "e"))', "abcde")
        self.texts("* * src.*", "mmx", ["src.m"], {"src.m": "x"}, "m")

    def test_of(self):
        self.texts('of "a"', "x", ["a"], {"a": "x"})
        self.texts('of "obj.a"', "x", ["obj.a"], {"obj.a": "x"})
        self.texts("of a", "y", ["a", "b"], {"a": "b", "b": "y"})
        self.texts('of ("obj." *)', "y", ["obj.main"], {"obj.main": "y"}, "main")
        self.texts("of of a", "z", ["a", "b", "c"], {"a": "b", "b": "c", "c": "z"})
        self.asks('of "a"', "a")
        self.asks("of a", "b", ["a"], {"a": "b"})
        self.asks("of a", "a", [], {"b": "c"})
        self.texts("of a", "a", ["a"], {"a": "a"})

    def test_names_that_are_none(self):
        for words in ("", " ", "a b", " a", "a ", "A", "a.b.c", "abcdefghi", "line", "more", "it", "a.*", "*", "obj.of", "7"):
            self.fails(("of", text(words)), "no name")
            self.fails("of a", "no name", ["a"], {"a": words, words: "there"})
        self.fails("of a", "no name", ["a"], {"a": "b\n"})
        self.fails("of line", "no name")

    def test_if(self):
        self.texts('if "a" is "a" then "b" else "c"', "b")
        self.texts('if "a" is "d" then "b" else "c"', "c")
        self.texts('if "a" is "a " then "b" else "c"', "c")
        self.texts('if "A" is "a" then "b" else "c"', "c")
        self.texts('if "" is "" then "b" else "c"', "b")
        self.texts('if count a is "2" then first a else rest a', "p", ["a"], {"a": "p q"})
        self.texts('if "1" is "01" then "b" else "c"', "c")

    def test_only_one_way_of_an_if_is_worked(self):
        self.texts('if "a" is "a" then "b" else fail "c"', "b")
        self.texts('if "a" is "b" then of "" else "c"', "c")
        self.texts('if "a" is "a" then "b" else d', "b")
        self.texts('if a is "x" then b else c', "y", ["a", "b"], {"a": "x", "b": "y", "c": "z"})
        self.texts('if a is b then c else d', "z", ["a", "b", "d"], {"a": "x", "b": "y", "d": "z"})
        self.fails('if "a" is "b" then "c" else fail "d"', "d")

    def test_each(self):
        self.texts('each "" do "x"', "")
        self.texts('each "  " do fail "x"', "")
        self.texts("each line do a", "")
        self.texts('each "a" do it', "a")
        self.texts('each "a b  c" do (it "-")', "a-b-c-")
        self.texts('each a do ("<" it ">")', "<p><q>", ["a"], {"a": " p\n\nq "})
        self.texts('each "a b a" do of it', "xyx", ["a", "b"], {"a": "x", "b": "y"})
        self.texts('each "a b c" do "-"', "---")
        self.texts('each "b a" do of ("obj." it)', "yx", ["obj.b", "obj.a"], {"obj.a": "x", "obj.b": "y"})

    def test_eaches_within_eaches(self):
        self.texts('each "a b" do each "c d" do it', "cdcd")
        self.texts('each "a b" do (it each "c d" do it it)', "acdabcdb")
        self.texts('each "a b" do each (it " " it) do (it ".")', "a.a.b.b.")
        self.texts('each each "a b" do (it it " ") do (it "!")', "aa!bb!")
        self.texts('each "a b" do if it is "a" then each "x y" do (it it) else it', "xxyyb")

    def test_single_parts(self):
        answers = {"a": " c b\na "}
        self.texts("back a", " a\nb c ", ["a"], answers)
        self.texts("first a", "c", ["a"], answers)
        self.texts("rest a", "b a", ["a"], answers)
        self.texts("count a", "3", ["a"], answers)
        self.texts("sorted a", "a b c", ["a"], answers)
        for recipe, words in (('back ""', ""), ('first ""', ""), ('rest ""', ""), ('count ""', "0"), ('sorted ""', ""),
                              ('rest "a"', ""), ('first " "', ""), ('sorted "b B 1"', "1 B b")):
            self.texts(recipe, words)
        self.texts('back first rest "ab cd ef"', "dc")

    def test_fail(self):
        self.fails('fail "words"', "words")
        self.fails('fail ""', "")
        self.fails('fail ("a" line "b")', "a\nb")
        self.fails("fail a", "x", ["a"], {"a": "x"})
        self.asks("fail a", "a")
        self.fails('fail fail "a"', "a")
        self.fails('back fail "ab"', "ab")
        self.fails('"a" fail "b" "c"', "b")
        self.fails('each "a b c" do if it is "b" then fail it else it', "b")


class OrderTest(WorksTest):

    def test_the_first_name_from_the_left_is_asked_for(self):
        self.asks("a b", "a")
        self.asks("a b", "b", ["a"], {"a": "x"})
        self.asks("a b", "a", [], {"b": "x"})
        self.asks("(a b) c", "a", [], {"b": "x", "c": "x"})
        self.asks("if a is b then c else d", "a")
        self.asks("if a is b then c else d", "b", ["a"], {"a": "x"})
        self.asks("if a is b then c else d", "c", ["a", "b"], {"a": "x", "b": "x"})
        self.asks("if a is b then c else d", "d", ["a", "b"], {"a": "x", "b": "y", "c": "x"})
        self.asks("each a do b", "a")
        self.asks('each "p q" do of it', "p")
        self.asks('each "p q" do of it', "q", ["p"], {"p": "x"})
        self.asks('each "p q" do (it b)', "b")
        self.asks("of (a b)", "a")

    def test_which_of_two_ends_is_told(self):
        self.fails('fail "x" a', "x")
        self.asks('a fail "x"', "a")
        self.fails('a fail "x"', "x", ["a"], {"a": ""})
        self.fails('of "" fail "x"', "no name")
        self.fails('fail "x" of ""', "x")
        self.fails('fail "x" fail "y"', "x")
        self.fails('if fail "x" is fail "y" then fail "z" else fail "u"', "x")
        self.fails('if "a" is fail "y" then fail "z" else fail "u"', "y")
        self.fails('each fail "x" do fail "y"', "x")
        self.fails('each "a b" do fail it', "a")

    def test_names_used(self):
        answers = {"a": "x", "b": "y", "c": "a", "d": "unused"}
        self.texts("b a b a", "yxyx", ["b", "a"], answers)
        self.texts("of c a", "xx", ["c", "a"], answers)
        self.texts("a of c", "xx", ["a", "c"], answers)
        self.fails('b a fail "z"', "z", ["b", "a"], answers)
        self.asks("b a b e", "e", ["b", "a"], answers)
        self.fails("b of a fail c", "a", ["b", "a", "x", "c"], {"x": "z", **answers})
        self.texts('"z"', "z", [], answers)

    def test_answers_told_one_by_one(self):
        all_answers = {"a": "b", "b": "c d", "c": "p", "d": "q", "e": "r"}
        tree = read_recipe("of a each b do of it e a", False)
        answers = {}
        came, used = worked(tree, None, answers)
        asked = []
        while came[0] == "asks":
            self.assertEqual(used, asked)
            self.assertNotIn(came[1], used)
            asked.append(came[1])
            answers[came[1]] = all_answers[came[1]]
            came, used = worked(tree, None, answers)
        self.assertEqual(used, asked)
        self.assertEqual((came, asked), (("text", "c dpqrb"), ["a", "b", "c", "d", "e"]))

    def test_answers_are_neither_changed_nor_kept(self):
        answers = {"a": "x"}
        tree = thing("a")
        first = worked(tree, None, answers)
        answers["a"] = "y"
        self.assertEqual(first, (("text", "x"), ["a"]))
        self.assertEqual(worked(tree, None, answers), (("text", "y"), ["a"]))
        answers.clear()
        self.assertEqual(worked(tree, None, answers), (("asks", "a"), []))

    def test_the_list_of_names_is_the_askers_own(self):
        answer = worked(thing("a"), None, {"a": "x"})
        answer[1].append("b")
        self.assertEqual(worked(thing("a"), None, {"a": "x"}), (("text", "x"), ["a"]))
        answer = worked(text(""), None, {})
        answer[1].append("b")
        self.assertEqual(worked(text(""), None, {}), (("text", ""), []))

    def test_the_arguments_have_their_names(self):
        self.assertEqual(worked(tree=("stem",), stem="s", answers={}), (("text", "s"), []))


class StepsTest(WorksTest):

    # An each and the thing that it walks take two steps, each word those of the part behind `do`.
    def test_the_500th_and_the_501st_step_of_an_each(self):
        for part, steps in (('("" "")', 3), ('back ""', 2), ('back back ""', 3), ('if "" is "" then "" else a', 4),
                            ('of "b"', 2), ('(of "b" "")', 4)):
            words = 498 // steps
            spare = 498 - words * steps
            tree = read_recipe("each a do " + part, False)
            answers = {"a": "w " * words, "b": ""}
            used = ["a", "b"] if "of" in part else ["a"]
            self.texts(tree, "", used, answers)
            if spare > 0:
                self.texts(("join", tree) + (text(""),) * (spare - 1), "", used, answers)
            self.fails(("join", tree) + (text(""),) * spare, "too much", used, answers)
            self.fails(tree, "too much", used, {"a": "w " * (words + 1), "b": ""})

    def test_joins_of_many_parts(self):
        self.texts(("join",) + (text(""),) * 499, "")
        self.fails(("join",) + (text(""),) * 500, "too much")
        self.fails(("join",) + (text(""),) * 499 + (thing("a"),), "too much", [], {"a": "x"})
        self.asks(("join",) + (text(""),) * 498 + (thing("a"),), "a")
        self.fails(("join",) + (text(""),) * 499 + (("fail", text("x")),), "too much")
        self.fails(("join",) + (text(""),) * 497 + (("fail", text("x")),), "x")
        self.fails(("join",) + (text(""),) * 498 + (("fail", text("x")),), "too much")

    def test_trees_beyond_the_bounds(self):
        tree = text("ab")
        for _ in range(499):
            tree = ("back", tree)
        self.texts(tree, "ba")
        self.fails(("back", tree), "too much")
        for _ in range(5000):
            tree = ("back", tree)
        self.fails(tree, "too much")

    def test_a_way_that_is_not_gone_takes_no_step(self):
        tree = ("join",) + (("if", text("a"), text("a"), text(""), ("join",) + (text("b"),) * 50),) * 124
        self.texts(tree[:125], "")
        self.assertEqual(1 + 4 * 124, 497)
        self.texts(tree + (text(""),) * 3, "")
        self.fails(tree + (text(""),) * 4, "too much")

    def test_too_much_and_other_ends(self):
        self.fails('each a do (it "b")', "too much", ["a"], {"a": "w " * 450})
        self.fails('fail each a do (it it)', "too much", ["a"], {"a": "w " * 300})
        self.fails('each a do of it', "too much", ["a", "w"], {"a": "w " * 300, "w": ""})

    def test_eaches_within_eaches(self):
        # each, a, and for each word of it: each, b, and one for each word of b.
        for inner, came in ((22, ("text", "")), (23, ("fails", "too much"))):
            answers = {"a": "w " * 20, "b": "v " * inner}
            self.assertEqual(2 + 20 * (2 + inner) <= 500, came[0] == "text")
            self.comes('each a do each b do ""', came, ["a", "b"], answers)


class LengthsTest(WorksTest):

    def test_900_and_901_signs_of_a_join(self):
        self.texts("a b", LONG, ["a", "b"], {"a": "x" * 450, "b": "x" * 450})
        self.fails("a b", "too long", ["a", "b"], {"a": "x" * 450, "b": "x" * 451})
        self.texts('a ""', LONG, ["a"], {"a": LONG})
        self.fails("a line", "too long", ["a"], {"a": LONG})

    def test_a_join_is_too_long_when_all_its_parts_have_been_worked(self):
        answers = {"a": LONG}
        self.fails('a a fail "x"', "x", ["a"], answers)
        self.asks("a a b", "b", ["a"], answers)
        self.fails("a a b", "too long", ["a", "b"], {"a": LONG, "b": ""})
        self.fails('(a a) fail "x"', "too long", ["a"], answers)
        self.fails("(a a) b", "too long", ["a"], answers)
        self.fails(("join", thing("a"), thing("a")) + (text(""),) * 500, "too much", ["a"], answers)

    def test_an_each_is_too_long_as_soon_as_it_is(self):
        self.texts("each a do b", LONG, ["a", "b"], {"a": "p q", "b": "x" * 450})
        self.fails("each a do b", "too long", ["a", "b"], {"a": "p q", "b": "x" * 451})
        recipe = 'each "p q r" do if it is "r" then fail "x" else b'
        self.fails(recipe, "x", ["b"], {"b": "x" * 450})
        self.fails(recipe, "too long", ["b"], {"b": "x" * 451})
        recipe = 'each "p q r" do if it is "r" then c else b'
        self.asks(recipe, "c", ["b"], {"b": "x" * 450})
        self.fails(recipe, "too long", ["b"], {"b": "x" * 451})
        self.texts(recipe, LONG, ["b", "c"], {"b": "x" * 450, "c": ""})
        self.fails("each a do b", "too long", ["a", "b"], {"a": "w " * 450, "b": "xxx"})

    def test_a_part_within_that_is_too_long(self):
        answers = {"a": LONG, "b": "y"}
        self.fails("first (a b)", "too long", ["a", "b"], answers)
        self.fails("count (a b)", "too long", ["a", "b"], answers)
        self.fails("of (a b)", "too long", ["a", "b"], answers)
        self.fails("fail (a b)", "too long", ["a", "b"], answers)
        self.fails('if (a b) is c then "" else ""', "too long", ["a", "b"], answers)
        self.fails("each (a b) do c", "too long", ["a", "b"], answers)
        self.fails('each "p" do (a b)', "too long", ["a", "b"], answers)
        self.texts("first a", LONG, ["a"], answers)
        self.fails("fail a", LONG, ["a"], answers)

    def test_texts_beyond_the_bound(self):
        self.fails("a", "too long", ["a"], {"a": "x" * 901})
        self.fails(text("x" * 901), "too long")
        self.texts(text(LONG), LONG)


class EndOfWorking(Exception):
    pass


# The same by a plain recursion, to hold the program's own way against.
class Plain:

    def __init__(self, stem, answers):
        self.stem, self.answers, self.steps, self.used = stem, answers, 0, []

    def outcome(self, tree):
        try:
            return (("text", self.part(tree, None)), self.used)
        except EndOfWorking as end:
            return (end.args[0], self.used)

    def answer(self, name):
        if name not in self.answers:
            raise EndOfWorking(("asks", name))
        if name not in self.used:
            self.used.append(name)
        return self.answers[name]

    def part(self, tree, it):
        self.steps += 1
        if self.steps == 501:
            raise EndOfWorking(("fails", "too much"))
        return self.short(self.inner(tree, it))

    def short(self, words):
        if len(words) > 900:
            raise EndOfWorking(("fails", "too long"))
        return words

    def inner(self, tree, it):
        kind = tree[0]
        if kind in ("text", "line", "it", "stem"):
            return {"text": tree[-1], "line": "\n", "it": it, "stem": self.stem}[kind]
        if kind == "thing":
            return self.answer(tree[1])
        if kind == "kin":
            return self.answer(tree[1] + "." + self.stem)
        if kind == "join":
            return "".join([self.part(part, it) for part in tree[1:]])
        if kind == "if":
            first = self.part(tree[1], it)
            return self.part(tree[3] if first == self.part(tree[2], it) else tree[4], it)
        if kind == "each":
            so_far = ""
            for word in self.part(tree[1], it).split():
                so_far = self.short(so_far + self.part(tree[2], word))
            return so_far
        return self.single(kind, self.part(tree[1], it))

    def single(self, kind, words):
        if kind == "fail":
            raise EndOfWorking(("fails", words))
        if kind == "of":
            if not is_name(words):
                raise EndOfWorking(("fails", "no name"))
            return self.answer(words)
        split = words.split()
        return {"back": words[::-1], "first": "".join(split[:1]), "rest": " ".join(split[1:]),
                "count": str(len(split)), "sorted": " ".join(sorted(split))}[kind]


class PlainTest(unittest.TestCase):

    def tree(self, chance, height):
        leaves = [("text", chance.choice(["", "a", "b", "c", "obj.a", "a b c", "x" * 400])), ("line",), ("it",), ("stem",),
                  ("thing", chance.choice("abc")), ("kin", "obj")]
        if height == 1 or chance.random() < 0.1:
            return chance.choice(leaves)
        kind = chance.choice(["join", "join", "if", "each", "each", "of", "back", "first", "rest", "count", "sorted", "fail"])
        if kind == "fail" and chance.random() < 0.8:
            kind = "join"
        number = {"join": chance.choice([2, 3, 4]), "if": 4, "each": 2}.get(kind, 1)
        return (kind,) + tuple(self.tree(chance, height - 1) for _ in range(number))

    def test_against_a_plain_recursion(self):
        chance = random.Random(15)
        kinds = {}
        for _ in range(4000):
            # An each around it all, so that `it` may stand anywhere.
            tree = ("each", ("text", chance.choice(["p", "a b", "p a b c " * 10])), self.tree(chance, chance.randrange(1, 8)))
            answers = {name: chance.choice(["", "a", "b c", "a b\nobj.a", "y" * 300, "c"])
                       for name in ("a", "b", "c", "obj.a") if chance.random() < 0.8}
            expected = Plain("a", answers).outcome(tree)
            self.assertEqual(worked(tree, "a", answers), expected)
            words = expected[0][1] if expected[0][1] in ("too much", "too long", "no name") else ""
            kinds[(expected[0][0], words)] = True
        self.assertEqual(sorted(kinds), [("asks", ""), ("fails", ""), ("fails", "no name"), ("fails", "too long"),
                                         ("fails", "too much"), ("text", "")])


if __name__ == "__main__":
    unittest.main()
