"""Yards: promises 1, 2, 3 and 22 to 26."""

import random
import unittest

from plain import PlainYard, by_chance, stems
from thingyard.books import read_book, told_book
from thingyard.errors import BadBook, BadBound, BadName, BadText, NoThing
from thingyard.reading import read_recipe
from thingyard.works import worked
from thingyard.yards import Yard

WRONG_NAMES = ["", "A", "a b", " a", "a ", "a.b.c", "abcdefghi", "of", "more", "a.*", "*", "a\n", "a.", None, True, False, 0, 5,
               1.5, b"a", [], ["a"], (), ("a",), {}, {"a": 1}, {"a"}, object(), str]
WRONG_TEXTS = ["\t", "\r", "\xe9", "\x7f", "a" * 901, None, True, False, 0, 5, 1.5, b"a", [], ["a"], (), {}, {"a"}, object(), str]
NO_RULE = (("none",), (), ("fails", "no rule"))


def given_account(text):
    return (("given",), (), ("text", text))


def yard_with(text, given=None, bound=1000):
    yard = Yard(text, bound)
    for name, words in (given or {}).items():
        yard.put(name, words)
    return yard


class YardTest(unittest.TestCase):

    def accounts(self, yard, name, account):
        with self.subTest(name=name):
            self.assertEqual(yard.account(name), account)
            self.assertEqual(yard.outcome(name), account[2])
            self.assertEqual(PlainYard(yard.given(), yard.book()).account(name), account)

    def refuses(self, error, yard, change):
        before = (yard.given(), yard.book(), yard.accounts(), yard.log())
        with self.assertRaises(error) as taken:
            change()
        self.assertEqual((yard.given(), yard.book(), yard.accounts(), yard.log()), before)
        return taken.exception


class GivenTest(YardTest):

    def test_given_things(self):
        yard = yard_with("", {"a": "x", "obj.b": "", "c": "p\nq"})
        self.accounts(yard, "a", given_account("x"))
        self.accounts(yard, "obj.b", given_account(""))
        self.accounts(yard, "c", given_account("p\nq"))
        self.assertEqual(yard.log(), [])

    def test_given_things_come_ahead_of_rules(self):
        yard = yard_with('a = fail "r"\nobj.* = b\nmore lib', {"a": "x", "obj.b": "y"})
        self.accounts(yard, "a", given_account("x"))
        self.accounts(yard, "obj.b", given_account("y"))
        self.assertEqual(list(yard.accounts()), ["a", "obj.b"])

    def test_given_anew_and_dropped(self):
        yard = yard_with('a = "rule"', {"a": "x"})
        self.accounts(yard, "a", given_account("x"))
        yard.put("a", "y")
        self.accounts(yard, "a", given_account("y"))
        yard.drop("a")
        self.accounts(yard, "a", (("rule", '"rule"', None), (), ("text", "rule")))
        yard.put("a", "z")
        self.accounts(yard, "a", given_account("z"))

    def test_given_tells_them_sorted(self):
        yard = yard_with("", {"c": "x", "a": "y", "b.c": "z", "b": "u"})
        self.assertEqual(yard.given(), {"c": "x", "a": "y", "b.c": "z", "b": "u"})
        self.assertEqual(list(yard.given()), ["a", "b", "b.c", "c"])
        yard.drop("b")
        self.assertEqual(list(yard.given()), ["a", "b.c", "c"])
        self.assertEqual(Yard("", 0).given(), {})

    def test_texts_of_900_signs(self):
        yard = yard_with("b = a", {"a": "x" * 900})
        self.assertEqual(yard.outcome("b"), ("text", "x" * 900))


class RulesTest(YardTest):

    def test_rules_of_the_yards_book(self):
        yard = yard_with('a = "x"\nb = a "y"\nc = fail b\nd = of e', {"e": "b"})
        self.accounts(yard, "a", (("rule", '"x"', None), (), ("text", "x")))
        self.accounts(yard, "b", (("rule", 'a "y"', None), ("a",), ("text", "xy")))
        self.accounts(yard, "c", (("rule", "fail b", None), ("b",), ("fails", "xy")))
        self.accounts(yard, "d", (("rule", "of e", None), ("e", "b"), ("text", "xy")))

    def test_recipes_are_told(self):
        yard = yard_with('a =of(("b"))\nf.* = ((*)(src.*))', {"b": "x", "src.m": "y"})
        self.accounts(yard, "a", (("rule", 'of "b"', None), ("b",), ("text", "x")))
        self.accounts(yard, "f.m", (("rule", "* src.*", "m"), ("src.m",), ("text", "my")))

    def test_families(self):
        yard = yard_with('obj.* = "o" src.*\nobj.b = "b"\nall = each "a b" do of ("obj." it)', {"src.a": "x"})
        self.accounts(yard, "obj.a", (("rule", '"o" src.*', "a"), ("src.a",), ("text", "ox")))
        self.accounts(yard, "obj.b", (("rule", '"b"', None), (), ("text", "b")))
        self.accounts(yard, "obj.c", (("rule", '"o" src.*', "c"), ("src.c",), ("stopped", "src.c")))
        self.accounts(yard, "all", (
            ("rule", 'each "a b" do of ("obj." it)', None), ("obj.a", "obj.b"), ("text", "oxb")))

    def test_no_rule(self):
        yard = yard_with('a = "x"\nobj.* = *')
        self.accounts(yard, "b", NO_RULE)
        self.accounts(yard, "obj", NO_RULE)
        self.accounts(yard, "src.a", NO_RULE)

    def test_failures(self):
        yard = yard_with('a = fail "x"\nb = of "7"\nc = each d do (it e)\ne = d d', {"d": "w " * 450})
        self.accounts(yard, "a", (("rule", 'fail "x"', None), (), ("fails", "x")))
        self.accounts(yard, "b", (("rule", 'of "7"', None), (), ("fails", "no name")))
        self.accounts(yard, "e", (("rule", "d d", None), ("d",), ("fails", "too long")))
        yard.put("e", "")
        self.accounts(yard, "c", (("rule", "each d do (it e)", None), ("d", "e"), ("fails", "too much")))

    def test_names_are_asked_for_once(self):
        yard = yard_with("a = b c b c", {"b": "x", "c": "y"})
        self.accounts(yard, "a", (("rule", "b c b c", None), ("b", "c"), ("text", "xyxy")))

    def test_what_need_not_be_asked_for_is_not(self):
        yard = yard_with('a = if b is "x" then c else d\nc = "p"\nd = e\ne = "q"', {"b": "x", "z": "u"})
        yard.outcome("a")
        self.assertEqual(list(yard.accounts()), ["a", "b", "c"])
        yard.put("b", "y")
        yard.outcome("a")
        self.assertEqual(list(yard.accounts()), ["a", "b", "c", "d", "e"])
        self.assertEqual(yard.account("a")[1], ("b", "d"))


class MoresTest(YardTest):

    def test_rules_in_books_that_mores_name(self):
        yard = yard_with('own = "o"\nmore lib\nmore bib', {"lib": 'a = "x"\nown = "no"', "bib": 'a = "no"\nb = a "y"'})
        self.accounts(yard, "own", (("rule", '"o"', None), (), ("text", "o")))
        self.accounts(yard, "a", (("rule", '"x"', None), ("lib",), ("text", "x")))
        self.accounts(yard, "b", (("rule", 'a "y"', None), ("lib", "bib", "a"), ("text", "xy")))
        self.accounts(yard, "c", (("none",), ("lib", "bib"), ("fails", "no rule")))
        self.accounts(yard, "lib", given_account('a = "x"\nown = "no"'))

    def test_families_in_books(self):
        yard = yard_with("more lib", {"lib": "f.* = * g.*", "g.a": "x"})
        self.accounts(yard, "f.a", (("rule", "* g.*", "a"), ("lib", "g.a"), ("text", "ax")))
        self.accounts(yard, "f.b", (("rule", "* g.*", "b"), ("lib", "g.b"), ("stopped", "g.b")))
        self.accounts(yard, "g.b", (("none",), ("lib",), ("fails", "no rule")))

    def test_a_family_ahead_of_a_name_in_a_later_book(self):
        yard = yard_with("f.* = *\nmore lib", {"lib": 'f.a = "x"'})
        self.accounts(yard, "f.a", (("rule", "*", "a"), (), ("text", "a")))

    def test_mores_of_such_books_come_behind_each_once(self):
        given = {"p": "more r\nmore q\nmore p", "q": "more s\nmore r", "r": "more t", "s": "", "t": 'a = "x"'}
        yard = yard_with("more p\nmore q", given)
        self.accounts(yard, "a", (("rule", '"x"', None), ("p", "q", "r", "s", "t"), ("text", "x")))
        self.accounts(yard, "b", (("none",), ("p", "q", "r", "s", "t"), ("fails", "no rule")))

    def test_a_book_that_is_made(self):
        yard = yard_with('lib = "a = " src line "b = a"\nmore lib', {"src": 'c "!"', "c": "x"})
        self.accounts(yard, "lib", (("rule", '"a = " src line "b = a"', None), ("src",), ("text", 'a = c "!"\nb = a')))
        self.accounts(yard, "b", (("rule", "a", None), ("lib", "a"), ("text", "x!")))
        yard.put("src", '("y")')
        self.accounts(yard, "b", (("rule", "a", None), ("lib", "a"), ("text", "y")))

    def test_no_book(self):
        for text in ("x", "a =", "a = 7", "more", "a = b\na = b", " # x"):
            yard = yard_with("own = a\nmore lib\nmore bib", {"lib": text, "bib": "a = b"})
            self.accounts(yard, "a", (("none",), ("lib",), ("fails", "no book")))
            self.accounts(yard, "own", (("rule", "a", None), ("a",), ("stopped", "a")))
        yard = yard_with("more lib\nmore bib", {"lib": "more bib\nb = a", "bib": "?"})
        self.accounts(yard, "a", (("none",), ("lib", "bib"), ("fails", "no book")))
        self.accounts(yard, "b", (("rule", "a", None), ("lib", "a"), ("stopped", "a")))

    def test_stopped_by_a_books_thing(self):
        yard = yard_with('lib = fail "x"\nmore bib\nmore lib', {"bib": "b = a"})
        self.accounts(yard, "a", (("none",), ("bib", "lib"), ("stopped", "lib")))
        self.accounts(yard, "b", (("rule", "a", None), ("bib", "a"), ("stopped", "a")))
        yard.rebook('b = "x"\nmore c')
        self.accounts(yard, "b", (("rule", '"x"', None), (), ("text", "x")))
        self.accounts(yard, "c", (("none",), ("c",), ("ring", ("c",))))
        self.accounts(yard, "a", (("none",), ("c",), ("stopped", "c")))

    def test_a_recipe_that_asks_for_a_books_thing(self):
        yard = yard_with("more lib\nmore bib", {"lib": "", "bib": "a = b bib lib", "b": "x"})
        self.accounts(yard, "a", (("rule", "b bib lib", None), ("lib", "bib", "b"), ("text", "xa = b bib lib")))
        pairs = (("b", "x"), ("bib", "a = b bib lib"), ("lib", ""))
        self.assertEqual(yard.log(), [
            ("b bib lib", None, (), ("asks", "b")),
            ("b bib lib", None, pairs[:1], ("asks", "bib")),
            ("b bib lib", None, pairs[:2], ("asks", "lib")),
            ("b bib lib", None, pairs, ("text", "xa = b bib lib")),
        ])

    def test_books_of_a_family(self):
        yard = yard_with("lib.* = src.*\nmore lib.a", {"src.a": 'a = "x"\nmore lib.b', "src.b": 'b = a "y"'})
        self.accounts(yard, "b", (("rule", 'a "y"', None), ("lib.a", "lib.b", "a"), ("text", "xy")))


class StopsAndRingsTest(YardTest):

    def test_stopped_by_a_thing_of_the_recipe(self):
        yard = yard_with('a = b c "x"\nb = "y"\nd = a\ne = d d\nc = fail "z"')
        self.accounts(yard, "a", (("rule", 'b c "x"', None), ("b", "c"), ("stopped", "c")))
        self.accounts(yard, "d", (("rule", "a", None), ("a",), ("stopped", "a")))
        self.accounts(yard, "e", (("rule", "d d", None), ("d",), ("stopped", "d")))

    def test_what_does_not_lean_on_it_is_not_stopped(self):
        yard = yard_with('a = b c\nb = fail "z"\nd = "x" e\ne = if "p" is "q" then b else "y"')
        self.accounts(yard, "d", (("rule", '"x" e', None), ("e",), ("text", "xy")))
        self.accounts(yard, "a", (("rule", "b c", None), ("b",), ("stopped", "b")))

    def test_rings_of_one(self):
        for recipe, asked in (("a", ("a",)), ("b a", ("b", "a")), ('of "a"', ("a",)), ("each b do of it", ("b", "a"))):
            yard = yard_with("a = " + recipe, {"b": "a"})
            self.accounts(yard, "a", (("rule", recipe, None), asked, ("ring", ("a",))))

    def test_rings_of_two_and_several(self):
        for first in "abcxyz":
            yard = yard_with('a = b\nb = a\nc = a\nx = z "!"\nz = p y\ny = x\np = "p"\nd = c')
            yard.outcome(first)
            two, three = ("ring", ("a", "b")), ("ring", ("x", "z", "y"))
            self.accounts(yard, "a", (("rule", "b", None), ("b",), two))
            self.accounts(yard, "b", (("rule", "a", None), ("a",), two))
            self.accounts(yard, "c", (("rule", "a", None), ("a",), ("stopped", "a")))
            self.accounts(yard, "d", (("rule", "c", None), ("c",), ("stopped", "c")))
            self.accounts(yard, "x", (("rule", 'z "!"', None), ("z",), three))
            self.accounts(yard, "z", (("rule", "p y", None), ("p", "y"), three))
            self.accounts(yard, "y", (("rule", "x", None), ("x",), three))

    def test_a_ring_that_another_ring_leans_near(self):
        # Both ask for the ring first, so the round between them is never gone.
        yard = yard_with("a = x b\nb = x a\nx = x")
        self.accounts(yard, "a", (("rule", "x b", None), ("x",), ("stopped", "x")))
        self.accounts(yard, "b", (("rule", "x a", None), ("x",), ("stopped", "x")))

    def test_a_way_that_is_not_gone_makes_no_ring(self):
        yard = yard_with('a = if c is "x" then b else "p"\nb = a', {"c": "y"})
        self.accounts(yard, "b", (("rule", "a", None), ("a",), ("text", "p")))
        yard.put("c", "x")
        self.accounts(yard, "b", (("rule", "a", None), ("a",), ("ring", ("a", "b"))))
        self.assertEqual(yard.account("a")[1], ("c", "b"))

    def test_rings_through_books(self):
        yard = yard_with('lib = a\nmore lib')
        ring = ("ring", ("a", "lib"))
        self.accounts(yard, "a", (("none",), ("lib",), ring))
        self.accounts(yard, "lib", (("rule", "a", None), ("a",), ring))
        self.accounts(yard, "b", (("none",), ("lib",), ("stopped", "lib")))
        yard = yard_with("more lib\nmore bib", {"lib": "p = q"})
        self.accounts(yard, "bib", (("none",), ("lib", "bib"), ("ring", ("bib",))))
        self.accounts(yard, "q", (("none",), ("lib", "bib"), ("stopped", "bib")))
        self.accounts(yard, "p", (("rule", "q", None), ("lib", "q"), ("stopped", "q")))

    def test_rings_that_are_broken_by_a_given_text(self):
        yard = yard_with("a = b\nb = c\nc = a\nd = a")
        self.assertEqual(yard.outcome("d"), ("stopped", "a"))
        yard.put("c", "x")
        self.assertEqual(yard.outcome("d"), ("text", "x"))
        yard.drop("c")
        self.assertEqual(yard.outcome("b"), ("ring", ("a", "b", "c")))
        self.assertEqual(yard.outcome("d"), ("stopped", "a"))

    def test_long_rows(self):
        names = stems(3000)
        yard = yard_with("n.* = if go.* is * then end else of (\"n.\" go.*)", {"end": "x"})
        for name, other in zip(names, names[1:] + names[-1:]):
            yard.put("go." + name, other)
        self.assertEqual(yard.outcome("n." + names[0]), ("text", "x"))
        self.assertEqual(len(yard.accounts()), 6001)
        yard.put("end", "y")
        self.assertEqual(len(yard.accounts()), 3000)
        self.assertEqual(yard.outcome("n." + names[7]), ("text", "y"))
        yard.drop("end")
        self.assertEqual(yard.outcome("n." + names[0]), ("stopped", "n." + names[1]))
        self.assertEqual(yard.outcome("n." + names[-1]), ("stopped", "end"))
        yard.put("go." + names[-1], names[1000])
        ring = ("ring", tuple("n." + name for name in names[1000:]))
        self.assertEqual(yard.outcome("n." + names[999]), ("stopped", "n." + names[1000]))
        self.assertEqual(yard.outcome("n." + names[1000]), ring)
        self.assertEqual(yard.outcome("n." + names[2222]), ring)

    def test_long_rows_of_books(self):
        names = ["lib." + stem for stem in stems(300)]
        yard = yard_with("more " + names[0])
        for name, other in zip(names, names[1:]):
            yard.put(name, "more " + other)
        yard.put(names[-1], 'a = "x"')
        self.assertEqual(yard.account("a"), (("rule", '"x"', None), tuple(names), ("text", "x")))


class LogTest(YardTest):

    def test_rows(self):
        yard = yard_with('obj.* = * src.* "!"', {"src.a": "x"})
        yard.outcome("obj.a")
        recipe = '* src.* "!"'
        rows = [(recipe, "a", (), ("asks", "src.a")), (recipe, "a", (("src.a", "x"),), ("text", "ax!"))]
        self.assertEqual(yard.log(), rows)
        yard.outcome("obj.b")
        rows.append((recipe, "b", (), ("asks", "src.b")))
        self.assertEqual(yard.log(), rows)
        yard.put("src.b", "y")
        yard.outcome("obj.b")
        rows.append((recipe, "b", (("src.b", "y"),), ("text", "by!")))
        self.assertEqual(yard.log(), rows)

    def test_order_of_answers(self):
        yard = yard_with('a = c b fail "z"', {"b": "x", "c": "y"})
        yard.outcome("a")
        self.assertEqual(yard.log(), [
            ('c b fail "z"', None, (), ("asks", "c")),
            ('c b fail "z"', None, (("c", "y"),), ("asks", "b")),
            ('c b fail "z"', None, (("c", "y"), ("b", "x")), ("fails", "z")),
        ])

    def test_no_working_twice(self):
        yard = yard_with("a = c\nb =(c)\nd = c", {"c": "x"})
        for name in "abda":
            yard.outcome(name)
        rows = [("c", None, (), ("asks", "c")), ("c", None, (("c", "x"),), ("text", "x"))]
        self.assertEqual(yard.log(), rows)
        yard.put("c", "y")
        yard.outcome("a")
        rows.append(("c", None, (("c", "y"),), ("text", "y")))
        self.assertEqual(yard.log(), rows)
        yard.put("c", "x")
        yard.outcome("b")
        yard.rebook("e = c")
        yard.outcome("e")
        self.assertEqual(yard.log(), rows)

    def test_a_remembered_thing_is_not_gone_through(self):
        yard = yard_with("a = b", {"b": "x"}, 0)
        yard.outcome("a")
        number = len(yard.log())
        for _ in range(3):
            yard.outcome("a")
            yard.account("a")
        self.assertEqual(len(yard.log()), number)

    def test_a_bound_of_nought(self):
        yard = yard_with("a = c\nb = c", {"c": "x"}, 0)
        yard.outcome("a")
        number = len(yard.log())
        self.assertGreaterEqual(number, 2)
        yard.outcome("b")
        self.assertEqual(len(yard.log()), 2 * number)
        yard.put("c", "x")
        yard.outcome("a")
        self.assertEqual(len(yard.log()), 3 * number)
        self.assertEqual(set(yard.log()), {("c", None, (), ("asks", "c")), ("c", None, (("c", "x"),), ("text", "x"))})

    def test_a_small_bound(self):
        yard = yard_with('a = "a"\nb = "b"\nc = "c"\nother = "a"', {}, 2)
        for name in "abc":
            yard.outcome(name)
        self.assertEqual([row[0] for row in yard.log()], ['"a"', '"b"', '"c"'])
        yard.outcome("other")
        self.assertEqual([row[0] for row in yard.log()], ['"a"', '"b"', '"c"', '"a"'])
        yard.rebook('x = "c"\ny = "b"')
        yard.outcome("x")
        self.assertEqual(len(yard.log()), 4)
        yard.outcome("y")
        self.assertEqual([row[0] for row in yard.log()], ['"a"', '"b"', '"c"', '"a"', '"b"'])

    def test_the_way_of_using_the_shelf(self):
        # Looking at what lies there is a use: so the first one stays, and the second one goes.
        yard = yard_with('a = "a"\nb = "b"\nc = "c"\nd = "a"\ne = "b"\nf = "a"', {}, 2)
        for name in "abdcfe":
            yard.outcome(name)
        self.assertEqual([row[0] for row in yard.log()], ['"a"', '"b"', '"c"', '"b"'])

    def test_a_bound_of_1000(self):
        names = stems(600)
        yard = yard_with("n.* = * src.*", {"src." + name: "x" for name in names})
        for name in names[:500]:
            yard.outcome("n." + name)
        self.assertEqual(len(yard.log()), 1000)
        yard.rebook(yard.book())
        for name in names[:500]:
            yard.outcome("n." + name)
        self.assertEqual(len(yard.log()), 1000)
        yard.outcome("n." + names[500])
        yard.rebook(yard.book())
        yard.outcome("n." + names[499])
        self.assertEqual(len(yard.log()), 1002)
        yard.outcome("n." + names[0])
        self.assertEqual(len(yard.log()), 1004)

    def test_every_row_tells_what_comes_of_it(self):
        chance = random.Random(25)
        for _ in range(60):
            names, given, text = by_chance(chance)
            bound = chance.choice([0, 2, 1000])
            yard = yard_with(text, given, bound)
            for name in names:
                yard.outcome(name)
            for recipe, stem, answers, came in yard.log():
                self.assertEqual(worked(read_recipe(recipe, stem is not None), stem, dict(answers))[0], came)
            if bound == 1000:
                self.assertEqual(len(set(yard.log())), len(yard.log()))


class ForgettingTest(YardTest):

    BOOK = 'a = p\nb = a q\nc = q\nd = c r\ne = if p is "x" then q else r\nring = other\nother = ring\nlost = none'

    def settled(self):
        yard = yard_with(self.BOOK, {"p": "x", "q": "y", "r": "z"})
        for name in ("b", "d", "e", "ring", "lost"):
            yard.outcome(name)
        self.assertEqual(list(yard.accounts()), [
            "a", "b", "c", "d", "e", "lost", "none", "other", "p", "q", "r", "ring"])
        return yard

    def lets_go(self, yard, change, gone):
        before = yard.accounts()
        log = yard.log()
        change()
        after = yard.accounts()
        self.assertEqual(sorted(set(before) - set(after)), gone)
        self.assertEqual({name: before[name] for name in after}, after)
        self.assertEqual(yard.log(), log)

    def test_put_and_drop(self):
        for name, gone in (("p", ["a", "b", "e", "p"]), ("q", ["b", "c", "d", "e", "q"]), ("r", ["d", "r"])):
            yard = self.settled()
            self.lets_go(yard, lambda: yard.put(name, "new"), gone)
            yard = self.settled()
            self.lets_go(yard, lambda: yard.put(name, yard.given()[name]), gone)
            yard = self.settled()
            self.lets_go(yard, lambda: yard.drop(name), gone)

    def test_things_that_were_not_given(self):
        for name, gone in (("a", ["a", "b"]), ("b", ["b"]), ("c", ["c", "d"]), ("ring", ["other", "ring"]),
                           ("other", ["other", "ring"]), ("none", ["lost", "none"]), ("lost", ["lost"]), ("z", [])):
            yard = self.settled()
            self.lets_go(yard, lambda: yard.put(name, "new"), gone)

    def test_another_book(self):
        yard = self.settled()
        everything = list(yard.accounts())
        self.lets_go(yard, lambda: yard.rebook(self.BOOK), everything)
        yard = self.settled()
        self.lets_go(yard, lambda: yard.rebook(""), everything)

    def test_books_things(self):
        yard = yard_with("own = c\nmore lib", {"lib": "a = b", "b": "x", "c": "y"})
        for name in ("own", "a", "z"):
            yard.outcome(name)
        self.lets_go(yard, lambda: yard.put("lib", "a = b"), ["a", "lib", "z"])
        self.assertEqual(list(yard.accounts()), ["b", "c", "own"])

    def test_what_was_not_asked_for_stays(self):
        yard = yard_with('a = if p is "x" then q else r', {"p": "x", "q": "y", "r": "z"})
        yard.outcome("a")
        self.lets_go(yard, lambda: yard.put("r", "new"), [])
        self.lets_go(yard, lambda: yard.put("q", "new"), ["a", "q"])

    def test_the_shelf_stays(self):
        yard = self.settled()
        number = len(yard.log())
        yard.put("p", "new")
        yard.put("p", "x")
        yard.rebook("")
        yard.rebook(self.BOOK)
        for name in ("b", "d", "e", "ring", "lost"):
            yard.outcome(name)
        self.assertEqual(len(yard.log()), number)


class ChangesTest(YardTest):

    def test_as_in_a_new_yard_behind_every_change(self):
        chance = random.Random(2)
        for _ in range(150):
            names, given, text = by_chance(chance)
            yard = yard_with(text, given, chance.choice([0, 1, 3, 1000]))
            for _ in range(5):
                for name in chance.sample(names, chance.choice([1, 4, len(names)])):
                    new = yard_with(yard.book(), yard.given(), 1000)
                    self.assertEqual(yard.account(name), new.account(name))
                    self.assertEqual(yard.account(name), PlainYard(yard.given(), yard.book()).account(name))
                self.change(yard, chance)
                plain = PlainYard(yard.given(), yard.book())
                for name, account in yard.accounts().items():
                    self.assertEqual(plain.account(name), account)

    def change(self, yard, chance):
        names, given, text = by_chance(chance)
        which = chance.choice(["put", "put", "drop", "rebook"])
        if which == "rebook":
            yard.rebook(text)
        elif which == "drop" and yard.given():
            yard.drop(chance.choice(list(yard.given())))
        else:
            name = chance.choice(names)
            yard.put(name, given.get(name, "x"))


class RefusedTest(YardTest):

    def test_new_yards(self):
        for wrong in WRONG_TEXTS + ["a = b" + " " * 900]:
            for bound in (0, -1, None):
                with self.assertRaises(BadText):
                    Yard(wrong, bound)
        for bound in (0, -1, None):
            with self.assertRaises(BadBook) as taken:
                Yard("a = b\n  c", bound)
            self.assertEqual((taken.exception.row, taken.exception.place), (2, 2))
        for wrong in (-1, 1001, True, False, None, "5", 1.0, [], (), {}, object()):
            with self.assertRaises(BadBound):
                Yard("a = b", wrong)
        for bound in (0, 1, 1000):
            self.assertEqual(Yard("", bound).outcome("a"), ("fails", "no rule"))

    def settled(self):
        yard = yard_with('a = b\nc = "x"', {"b": "x"})
        yard.outcome("a")
        return yard

    def test_put(self):
        yard = self.settled()
        for wrong in WRONG_NAMES:
            for text in ("x", None, "\t"):
                with self.subTest(wrong=repr(wrong)):
                    self.refuses(BadName, yard, lambda: yard.put(wrong, text))
        for wrong in WRONG_TEXTS:
            with self.subTest(wrong=repr(wrong)[:40]):
                self.refuses(BadText, yard, lambda: yard.put("b", wrong))

    def test_drop(self):
        yard = self.settled()
        for wrong in WRONG_NAMES + ["a", "c", "z", "b.b"]:
            with self.subTest(wrong=repr(wrong)):
                self.refuses(NoThing, yard, lambda: yard.drop(wrong))
        yard.drop("b")
        self.refuses(NoThing, yard, lambda: yard.drop("b"))

    def test_rebook(self):
        yard = self.settled()
        for wrong in WRONG_TEXTS:
            with self.subTest(wrong=repr(wrong)[:40]):
                self.refuses(BadText, yard, lambda: yard.rebook(wrong))
        for text, row, place in (("a", 1, 0), ("a = b\nb = )", 2, 4), ("more x\n more x", 2, 6)):
            refusal = self.refuses(BadBook, yard, lambda: yard.rebook(text))
            self.assertEqual((refusal.row, refusal.place), (row, place))

    def test_asking(self):
        yard = self.settled()
        for wrong in WRONG_NAMES:
            with self.subTest(wrong=repr(wrong)):
                self.refuses(BadName, yard, lambda: yard.outcome(wrong))
                self.refuses(BadName, yard, lambda: yard.account(wrong))


class OwnTest(YardTest):

    def test_changes_give_none(self):
        yard = Yard("", 5)
        self.assertIsNone(yard.put("a", "x"))
        self.assertIsNone(yard.drop("a"))
        self.assertIsNone(yard.rebook("a = b"))

    def test_the_books_text_is_told(self):
        for text in ("", "# x\n\n", "more b\na =(b)c", 'f.* =*\nmore a\nmore b\n\nb ="x"'):
            yard = Yard(text, 5)
            self.assertEqual(yard.book(), told_book(read_book(text)))
            yard.rebook("z = y")
            self.assertEqual(yard.book(), "z = y\n")

    def test_accounts_are_sorted(self):
        yard = yard_with("z = y b.c a b\ny = a", {"a": "x", "b": "x", "b.c": "x"})
        yard.outcome("z")
        self.assertEqual(list(yard.accounts()), ["a", "b", "b.c", "y", "z"])
        for name, account in yard.accounts().items():
            self.assertEqual(account, yard.account(name))

    def test_kinds(self):
        yard = yard_with("a = b c\nb = b\nd = e", {"e": "x"})
        for name in "abd":
            way, asked, outcome = yard.account(name)
            self.assertEqual([type(part) for part in (yard.account(name), way, asked, outcome)], [tuple] * 4)
        self.assertIs(type(yard.outcome("b")[1]), tuple)
        self.assertEqual([type(part) for part in (yard.given(), yard.accounts(), yard.log())], [dict, dict, list])
        for row in yard.log():
            self.assertEqual([type(part) for part in (row, row[2], row[3])], [tuple] * 3)
            self.assertTrue(all(type(pair) is tuple for pair in row[2]))

    def test_answers_changed_by_their_asker(self):
        yard = yard_with("a = b", {"b": "x"})
        yard.outcome("a")
        yard.given().clear()
        yard.accounts().clear()
        yard.log().clear()
        yard.given()["c"] = "y"
        yard.accounts()["a"] = None
        yard.log().append(None)
        self.assertEqual(yard.given(), {"b": "x"})
        self.assertEqual(list(yard.accounts()), ["a", "b"])
        self.assertEqual(len(yard.log()), 2)
        self.assertEqual(yard.outcome("a"), ("text", "x"))
        self.assertEqual(yard.outcome("c"), ("fails", "no rule"))

    def test_answers_stay_as_they_were(self):
        yard = yard_with("a = b", {"b": "x"})
        account = yard.account("a")
        given, accounts, log, book = yard.given(), yard.accounts(), yard.log(), yard.book()
        yard.put("b", "y")
        yard.put("c", "z")
        yard.outcome("a")
        yard.rebook("")
        self.assertEqual((account, given, book), ((("rule", "b", None), ("b",), ("text", "x")), {"b": "x"}, "a = b\n"))
        self.assertEqual((list(accounts), len(log)), (["a", "b"], 2))

    def test_two_yards_beside_one_another(self):
        first, second = yard_with("a = b", {"b": "x"}), yard_with("a = b", {"b": "y"})
        self.assertEqual((first.outcome("a"), second.outcome("a")), (("text", "x"), ("text", "y")))
        first.drop("b")
        self.assertEqual((len(first.log()), len(second.log())), (2, 2))
        self.assertEqual((first.given(), second.given()), ({}, {"b": "y"}))
        self.assertEqual(second.outcome("a"), ("text", "y"))

    def test_the_arguments_have_their_names(self):
        yard = Yard(text="a = b", bound=5)
        yard.put(name="b", text="x")
        self.assertEqual(yard.outcome(name="a"), yard.account(name="a")[2])
        yard.drop(name="b")
        yard.rebook(text="")


if __name__ == "__main__":
    unittest.main()
