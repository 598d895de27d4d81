"""Yards: given things, a book, and what is made of them."""

from thingyard.accounts import Accounts
from thingyard.books import read_book, told_book
from thingyard.errors import BadName, BadText, NoThing
from thingyard.settling import Bench, Settling
from thingyard.signs import is_name, is_text


class Yard:
    def __init__(self, text, bound):
        self.own = read_book(text)
        self.bench = Bench(bound)
        self.texts = {}
        self.remembered = Accounts()

    def put(self, name, text):
        if not is_name(name):
            raise BadName("a thing is known by a name")
        if not is_text(text):
            raise BadText("a thing is given a text")
        self.texts[name] = text
        self.remembered.let_go(name)

    def drop(self, name):
        # What is no name may be a thing that no dict can be asked for.
        if not is_name(name) or name not in self.texts:
            raise NoThing("this thing isn't given")
        self.texts.pop(name)
        self.remembered.let_go(name)

    def rebook(self, text):
        self.own = read_book(text)
        self.remembered.let_all_go()

    def outcome(self, name):
        return self.account(name)[2]

    def account(self, name):
        if not is_name(name):
            raise BadName("a thing is known by a name")
        if self.remembered.kept_of(name) is None:
            Settling(self.own, self.texts, self.remembered, self.bench).settle(name)
        return self.remembered.kept_of(name)

    def given(self):
        return dict([(name, self.texts[name]) for name in sorted(self.texts)])

    def book(self):
        return told_book(self.own)

    def accounts(self):
        return self.remembered.in_order()

    def log(self):
        return list(self.bench.rows)

    def leaning_on(self, name):
        return self.remembered.leaning_on(name)
