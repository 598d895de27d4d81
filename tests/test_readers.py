"""Readers: promise 27."""

import random
import unittest

from plain import PlainYard, by_chance, stems
from thingyard.readers import faulty, stands
from thingyard.yards import Yard

BOOK = """a = p "-" q
b = if p is "x" then a else r
c = fail b
d = s c
e = d
f.* = * src.*
one = one
two = p three
three = two
far = two
more lib
more bib"""
GIVEN = {"p": "x", "q": "y", "src.m": "z", "lib": 'm = lib p\nn = "n"', "bib": "g.* = of *\nu = nobook"}
NAMES = ["a", "b", "c", "d", "e", "f.m", "f.n", "one", "two", "far", "m", "n", "g.a", "u", "v"]
JUNK = [None, 0, 7, "", "x", "a", (), ("a",), [], ["a"], {}, {"a": "b"}, ("given",), ("text", "x"), (("none",), (), ("fails", "x"))]


def asked_yard(names=NAMES, text=BOOK, given=None):
    yard = Yard(text, 1000)
    for name, words in (GIVEN if given is None else given).items():
        yard.put(name, words)
    for name in names:
        yard.outcome(name)
    return yard


# All things that are like this one but for a single part, changed, left out or put in.
def changed(thing, depth=0):
    found = [junk for junk in JUNK if junk != thing or type(junk) is not type(thing)]
    if isinstance(thing, str):
        found += [thing + "x", thing + " ", thing[1:], thing[:-1], thing.upper(), thing + "\n"]
    if isinstance(thing, tuple):
        found.append(list(thing))
        for place, part in enumerate(thing):
            found.append(thing[:place] + thing[place + 1:])
            found += [thing[:place] + (junk,) + thing[place:] for junk in (None, "a", "p", ())]
            found.append(thing[:place] + thing[place + 1:place + 2] + (part,) + thing[place + 2:])
            if depth < 3:
                found += [thing[:place] + (other,) + thing[place + 1:] for other in changed(part, depth + 1)]
        found += [thing + (junk,) for junk in (None, "a", "p", ())]
    return [other for other in found if not same(other, thing)]


def same(one, other):
    if type(one) is not type(other):
        return False
    if isinstance(one, (tuple, list)):
        return len(one) == len(other) and all(map(same, one, other))
    return one == other


class ReadersTest(unittest.TestCase):

    def reads(self, accounts, answer, wrong=None, text=BOOK, given=None):
        given = GIVEN if given is None else given
        self.assertIs(stands(given, text, accounts), answer, accounts)
        if wrong is not None:
            found = faulty(given, text, accounts)
            self.assertEqual(found, wrong)
            self.assertIs(type(found), list)


class StandingTest(ReadersTest):

    def test_accounts_that_a_yard_tells(self):
        yard = asked_yard()
        kinds = {(account[0][0], account[2][0]) for account in yard.accounts().values()}
        self.assertEqual(kinds, {("given", "text"), ("rule", "text"), ("rule", "fails"), ("rule", "stopped"), ("rule", "ring"),
                                 ("none", "fails")})
        self.reads(yard.accounts(), True, [])
        self.reads(yard.accounts(), True, [], yard.book(), yard.given())

    def test_of_each_thing_alone(self):
        for name in NAMES:
            with self.subTest(name=name):
                self.reads(asked_yard([name]).accounts(), True, [])

    def test_no_accounts(self):
        self.reads({}, True, [])
        self.reads({}, True, [], "", {})

    def test_given_things(self):
        given = {"a": "x", "b": ""}
        self.reads({"a": (("given",), (), ("text", "x"))}, True, [], "a = b", given)
        self.reads({"b": (("given",), (), ("text", ""))}, True, [], "a = b", given)
        self.reads({"a": (("given",), (), ("text", "y"))}, False, ["a"], "a = b", given)
        self.reads({"a": (("none",), (), ("text", "x"))}, False, ["a"], "a = b", given)
        self.reads({"a": (("rule", "b", None), ("b",), ("text", "")), "b": (("given",), (), ("text", ""))},
                   False, ["a"], "a = b", given)
        self.reads({"c": (("given",), (), ("text", "x"))}, False, ["c"], "a = b", given)

    def test_yards_by_chance(self):
        chance = random.Random(27)
        for _ in range(200):
            names, given, text = by_chance(chance)
            yard = asked_yard(names, text, given)
            self.reads(yard.accounts(), True, [], text, given)

    def test_long_rows(self):
        names = stems(2000)
        given = {"go." + name: other for name, other in zip(names, names[1:] + names[:1])}
        text = 'n.* = of ("n." go.*)'
        yard = asked_yard(["n.aaa"], text, given)
        self.assertEqual(yard.outcome("n.aaa")[0], "ring")
        self.reads(yard.accounts(), True, [], text, given)
        for last in ('"x"', 'fail "x"'):
            rows = text + "\nn." + names[-1] + " = " + last
            accounts = asked_yard(["n.aaa"], rows, given).accounts()
            self.reads(accounts, True, [], rows, given)
            self.reads(accounts, False, ["n." + names[-1]], text, given)

    def test_a_told_book_of_more_than_900_signs(self):
        text = "\n".join(name + ' =""""""""""""""""""""""""""""""' for name in stems(20))
        yard = asked_yard(["aaa"], text, {})
        self.assertGreater(len(yard.book()), 900)
        self.reads(yard.accounts(), True, [], yard.book(), {})
        self.reads(yard.accounts(), True, [], text, {})

    def test_a_recipe_of_more_than_900_signs(self):
        text = "a =" + '"ddddddd"' * 99
        yard = asked_yard(["a"], text, {})
        self.assertGreater(len(yard.account("a")[0][1]), 900)
        self.reads(yard.accounts(), True, [], text, {})

    def test_the_arguments_have_their_names(self):
        self.assertIs(stands(given={}, text="", accounts={}), True)
        self.assertEqual(faulty(given={}, text="", accounts={}), [])

    def test_nothing_handed_in_is_changed(self):
        given, accounts = dict(GIVEN), asked_yard().accounts()
        accounts["zz"] = ["x"]
        before = (dict(given), dict(accounts))
        stands(given, BOOK, accounts)
        faulty(given, BOOK, accounts).clear()
        self.assertEqual((given, accounts), before)
        self.assertEqual(list(accounts), list(before[1]))
        self.assertEqual(faulty(given, BOOK, accounts), ["zz"])


class ChangedTest(ReadersTest):

    def test_each_single_thing_changed(self):
        yard = asked_yard()
        accounts = yard.accounts()
        number = 0
        for name in accounts:
            for other in changed(accounts[name]):
                number += 1
                spoilt = {**accounts, name: other}
                self.assertIs(stands(GIVEN, BOOK, spoilt), False, (name, other))
        self.assertGreater(number, 5000)

    def test_accounts_left_out(self):
        accounts = asked_yard().accounts()
        for name in accounts:
            left = {other: account for other, account in accounts.items() if other != name}
            askers = sorted(other for other in left if name in left[other][1])
            self.reads(left, not askers, askers)

    def test_accounts_put_in(self):
        accounts = asked_yard().accounts()
        self.assertNotIn("w", accounts)
        right = (("none",), ("lib", "bib"), ("fails", "no rule"))
        self.reads({**accounts, "w": right}, True, [])
        for wrong in JUNK + [(("none",), ("lib",), ("fails", "no rule")), (("none",), ("bib", "lib"), ("fails", "no rule")),
                             (("none",), (), ("fails", "no rule")), (("none",), ("lib", "bib"), ("text", "no rule")),
                             (("none",), ("lib", "bib"), ("stopped", "bib")), (("given",), ("lib", "bib"), ("fails", "no rule"))]:
            self.reads({**accounts, "w": wrong}, False, ["w"])

    def test_accounts_of_one_another(self):
        accounts = asked_yard().accounts()
        for name in accounts:
            for other in accounts:
                if accounts[name] != accounts[other]:
                    self.assertIs(stands(GIVEN, BOOK, {**accounts, name: accounts[other]}), False, (name, other))

    def test_other_given_texts_and_books(self):
        accounts = asked_yard().accounts()
        self.reads(accounts, False, ["p"], given={**GIVEN, "p": "new"})
        self.reads(accounts, False, ["a"], BOOK.replace('a = p "-" q', 'a = p "+" q'))
        self.reads(accounts, False, ["d"], BOOK.replace("d = s c", "d = c s"))
        self.reads(accounts, False, ["p"], given={name: text for name, text in GIVEN.items() if name != "p"})
        self.reads(accounts, True, [], BOOK.replace("e = d", "# other\n  e   =(d)"))
        self.reads(accounts, True, [], BOOK + "\nunasked = p")

    def test_just_the_accounts_of_a_new_yard_stand(self):
        chance = random.Random(28)
        seen = {True: 0, False: 0}
        for _ in range(300):
            names, given, text = by_chance(chance)
            accounts = asked_yard(chance.sample(names, 4), text, given).accounts()
            plain = PlainYard(given, text)
            for _ in range(10):
                spoilt = dict(accounts)
                for name in chance.sample(list(spoilt), min(len(spoilt), chance.choice([1, 1, 2]))):
                    spoilt[name] = self.other(chance, accounts[name], accounts)
                right = all(same(spoilt[name], plain.account(name)) for name in spoilt)
                whole = all(other in spoilt for name in spoilt for other in plain.account(name)[1])
                seen[right and whole] += 1
                self.assertIs(stands(given, text, spoilt), right and whole, (text, given, spoilt))
        self.assertGreater(seen[True], 100)

    # Of a form that is right, most times, so that what is wrong lies in what it tells.
    def other(self, chance, account, accounts):
        way, asked, outcome = account
        name = chance.choice(list(accounts))
        ring = sorted(chance.sample(list(accounts), min(len(accounts), chance.choice([1, 2, 3]))))
        return chance.choice([
            (way, asked, ("text", chance.choice(["x", "y", ""]))), (way, asked, ("fails", "no rule")),
            (way, asked, ("stopped", name)), (way, asked, ("ring", tuple(ring))), (way, asked + (name,), outcome),
            (way, asked[:-1], outcome), (way, asked[::-1], outcome), (("none",), asked, outcome),
            chance.choice(list(accounts.values())), (way, asked, ("stopped", (asked + (name,))[-1])), account,
        ])


class FormsTest(ReadersTest):

    def test_things_in_the_place_of_accounts(self):
        for thing in (None, 0, 1, "", "a", (), [], [("a", ())], (("a", ()),), ("a",), {"A": 1}, {"": 1}, {0: 1}, {None: 1},
                      {(): 1}, {"a b": 1}, {"of": 1}, {"a.b.c": 1}, {("a",): 1}):
            self.reads(thing, False)
        right = (("none",), (), ("fails", "no rule"))
        self.reads({"w": right}, True, [], "", {})
        for key in ("A", "", 0, None, (), "more", "w.", "w "):
            self.reads({"w": right, key: right}, False, None, "", {})
            self.reads({key: right}, False, None, "", {})

    def test_things_in_the_place_of_an_account(self):
        for thing in JUNK[:-1] + [((), (), ()), (("given",), ()), (("given",), (), ("text", "x"), ()), [("given",), (), ("text", "x")],
                                  (["given"], (), ("text", "x")), (("given",), [], ("text", "x")), (("given",), (), ["text", "x"]),
                                  ("given", (), ("text", "x")), (("given",), "", ("text", "x")), (("given",), (), "x")]:
            self.reads({"a": thing}, False, ["a"], "", {"a": "x"})
            # One that asks for it has nothing to stand on, so it is faulty too.
            asker = (("rule", "a", None), ("a",), ("text", "x"))
            self.reads({"a": thing, "b": asker}, False, ["a", "b"], "b = a", {"a": "x"})

    def test_forms_that_are_right_hold_up_what_asks_for_them(self):
        # Whichever go together: these don't stand themselves, but tell a text.
        for account in ((("none",), (), ("text", "x")), (("given",), ("q", "r.s"), ("text", "x")), (("rule", "?", None), (), ("text", "x")),
                        (("rule", "", "m"), ("a",), ("text", "x")), (("rule", "a" * 950, None), (), ("text", "x"))):
            self.reads({"a": account, "b": (("rule", "a", None), ("a",), ("text", "x"))}, False, ["a"], "b = a", {})
            self.reads({"a": account, "b": (("rule", "a", None), ("a",), ("text", "y"))}, False, ["a", "b"], "b = a", {})

    def test_forms_that_are_wrong_hold_up_nothing(self):
        for way in ((), ("given", "x"), ("none", None), ("rule",), ("rule", "x"), ("rule", "x", None, None), ("rule", None, None),
                    ("rule", 5, None), ("rule", "x", "A"), ("rule", "x", ""), ("rule", "x", 5), ("rule", "x", "a.b"),
                    ("rule", ("x",), None), ("rule", "x", ()), ("rules", "x", None), ("Given",), (None,), (("given",),)):
            self.held_up_by_nothing((way, (), ("text", "x")))
        for asked in (("A",), ("p", "p"), ("p", None), ("p", 5), (("p",),), ([],), ("p", "q", "p"), ("",), ("of",)):
            self.held_up_by_nothing((("none",), asked, ("text", "x")))

    def held_up_by_nothing(self, account):
        for came in (("text", "x"), ("stopped", "a")):
            asker = (("rule", "a", None), ("a",), came)
            self.reads({"a": account, "b": asker}, False, ["a", "b"], "b = a", {})

    def test_outcomes_of_wrong_forms(self):
        for outcome in ((), ("text",), ("text", None), ("text", 5), ("text", "x", "x"), ("text", "x" * 901), ("fails",), ("fails", None),
                        ("fails", ("x",)), ("stopped",), ("stopped", "A"), ("stopped", None), ("stopped", ("q",)), ("ring",),
                        ("ring", ()), ("ring", "a"), ("ring", ["a"]), ("ring", ("a", "a")), ("ring", ("b", "a")), ("ring", ("A",)),
                        ("ring", (None,)), ("ring", ("a", [])), ("asks", "q"), ("x", "x"), (None, "x"), (("text",), "x")):
            self.held_up_by_nothing((("none",), (), outcome))

    def test_outcomes_of_right_forms_without_texts(self):
        for outcome in (("fails", ""), ("fails", "x"), ("stopped", "q"), ("stopped", "b"), ("ring", ("a",)), ("ring", ("q", "r.s"))):
            account = (("none",), (), outcome)
            self.reads({"a": account, "b": (("rule", "a", None), ("a",), ("stopped", "a"))}, False, ["a"], "b = a", {})
            self.reads({"a": account, "b": (("rule", "a", None), ("a",), ("ring", ("a", "b")))}, False, ["a"], "b = a", {})
            self.reads({"a": account, "b": (("rule", "a", None), ("a",), ("ring", ("a", "c", "b")))}, False, ["a"], "b = a", {})
            for came in (("text", "x"), ("text", ""), ("fails", "x"), ("stopped", "b"), ("stopped", "q"), ("ring", ("a",)),
                         ("ring", ("b",)), ("ring", ("a", "b", "c")), ("ring", ("b", "c"))):
                self.reads({"a": account, "b": (("rule", "a", None), ("a",), came)}, False, ["a", "b"], "b = a", {})

    def test_faulty_names_are_sorted(self):
        accounts = {name: None for name in ("c", "a", "b.c", "b", "z", "ab")}
        self.assertEqual(faulty({}, "", accounts), ["a", "ab", "b", "b.c", "c", "z"])


class RoundsTest(ReadersTest):

    def rule(self, recipe, asked, outcome):
        return (("rule", recipe, None), asked, outcome)

    def test_texts_that_hold_one_another_up(self):
        for text in ("x", ""):
            accounts = {"a": self.rule("b", ("b",), ("text", text)), "b": self.rule("a", ("a",), ("text", text))}
            self.reads(accounts, False, [], "a = b\nb = a", {})
        accounts = {"a": self.rule("a", ("a",), ("text", "x"))}
        self.reads(accounts, False, [], "a = a", {})

    def test_failures_that_hang_on_such_texts(self):
        accounts = {"a": self.rule("b", ("b",), ("text", "x")), "b": self.rule("c", ("c",), ("text", "x")),
                    "c": self.rule("a", ("a",), ("text", "x")), "d": self.rule("fail a", ("a",), ("fails", "x"))}
        self.reads(accounts, False, [], "a = b\nb = c\nc = a\nd = fail a", {})

    def test_books_that_hold_themselves_up(self):
        text = "lib = \"y\"\nmore bib"
        accounts = {"bib": (("rule", '"bib = " of "bib"', None), ("bib",), ("text", 'bib = "bib = " of "bib"'))}
        self.assertIs(stands({}, text, accounts), False)
        quine = 'bib = bib'
        accounts = {"bib": (("rule", "bib", None), ("bib",), ("text", quine))}
        self.reads(accounts, False, [], "more bib", {})

    def test_stops_that_hold_one_another_up(self):
        accounts = {"a": self.rule("b", ("b",), ("stopped", "b")), "b": self.rule("a", ("a",), ("stopped", "a"))}
        self.reads(accounts, False, [], "a = b\nb = a", {})
        accounts = {"a": self.rule("a", ("a",), ("stopped", "a"))}
        self.reads(accounts, False, [], "a = a", {})
        accounts = {"a": self.rule("b", ("b",), ("stopped", "b")), "b": self.rule("c", ("c",), ("stopped", "c")),
                    "c": self.rule("b", ("b",), ("stopped", "b"))}
        self.reads(accounts, False, [], "a = b\nb = c\nc = b", {})

    def test_rings_told_and_spoilt(self):
        text = "a = b\nb = c\nc = a\nd = a"
        ring = ("ring", ("a", "b", "c"))
        accounts = {"a": self.rule("b", ("b",), ring), "b": self.rule("c", ("c",), ring), "c": self.rule("a", ("a",), ring),
                    "d": self.rule("a", ("a",), ("stopped", "a"))}
        self.reads(accounts, True, [], text, {})
        for name, stop in (("a", "b"), ("b", "c"), ("c", "a")):
            account = accounts[name]
            spoilt = {**accounts, name: account[:2] + (("stopped", stop),)}
            self.reads(spoilt, False, [], text, {})
        for told, wrong in ((("a", "b"), []), (("a", "b", "c", "d"), []), (("a", "b", "d"), []), (("a", "c", "b"), ["a"]),
                            (("a",), ["a"]), (("b", "c"), ["a"]), (("b", "c", "a"), ["a", "c", "d"])):
            spoilt = {**accounts, "a": self.rule("b", ("b",), ("ring", told))}
            self.reads(spoilt, False, wrong, text, {})
        spoilt = {**accounts, "d": self.rule("a", ("a",), ("ring", ("a", "d")))}
        self.reads(spoilt, False, [], text, {})
        spoilt = {**accounts, "d": self.rule("a", ("a",), ring)}
        self.reads(spoilt, False, ["d"], text, {})

    def test_a_ring_told_where_there_is_none(self):
        text = "a = b\nb = c"
        accounts = {"a": self.rule("b", ("b",), ("stopped", "b")), "b": self.rule("c", ("c",), ("stopped", "c")),
                    "c": (("none",), (), ("fails", "no rule"))}
        self.reads(accounts, True, [], text, {})
        self.reads({**accounts, "a": self.rule("b", ("b",), ("ring", ("a", "b")))}, False, [], text, {})
        spoilt = {**accounts, "a": self.rule("b", ("b",), ("ring", ("a", "b"))), "b": self.rule("c", ("c",), ("ring", ("a", "b")))}
        self.reads(spoilt, False, ["b"], text, {})
        spoilt = {**accounts, "b": self.rule("c", ("c",), ("ring", ("b", "c")))}
        self.reads(spoilt, False, [], text, {})

    def test_a_ring_of_one(self):
        accounts = {"a": self.rule("a", ("a",), ("ring", ("a",)))}
        self.reads(accounts, True, [], "a = a", {})
        self.reads({"a": self.rule("a", ("a",), ("ring", ("a", "b")))}, False, ["a"], "a = a", {})

    def test_rings_through_books(self):
        ring = ("ring", ("a", "lib"))
        accounts = {"a": (("none",), ("lib",), ring), "lib": self.rule("a", ("a",), ring)}
        self.reads(accounts, True, [], "lib = a\nmore lib", {})
        self.reads({**accounts, "a": (("none",), ("lib",), ("stopped", "lib"))}, False, [], "lib = a\nmore lib", {})


if __name__ == "__main__":
    unittest.main()
