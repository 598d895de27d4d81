"""Settling: things asked for, gone on with as far as they ask for others, and brought to their accounts."""

from thingyard.accounts import given_account, text_in
from thingyard.books import BookPile
from thingyard.finding import Search
from thingyard.rings import ring_from
from thingyard.shelves import Shelf
from thingyard.telling import told_recipe
from thingyard.works import worked


# Works recipes, but for those whose outcome still lies on the shelf.
class Bench:
    def __init__(self, bound):
        self.shelf = Shelf(bound)
        self.rows = []

    def came_of(self, tree, recipe, stem, answers):
        key = (recipe, stem, answers)
        came = self.shelf.look(key)
        if came is None:
            came = worked(tree, stem, dict(answers))[0]
            self.shelf.lay(key, came)
            self.rows.append((recipe, stem, answers, came))
        return came


# One thing on its way. It wants the name that it asks for next, or has an end: a text or a failure.
class Making:
    def __init__(self, name, book):
        self.name = name
        self.search = Search(name, book)
        self.way = ("none",)
        self.asked = []
        self.texts = {}
        self.answers = ()
        self.wanted = None
        self.end = None

    def go_on(self, bench):
        self.wanted = None
        if self.search.rule is None:
            self.seek()
        else:
            self.work(bench)

    def seek(self):
        # While the rule is looked for, nothing but books' things has been asked for.
        number = len(self.asked)
        if number == len(self.search.mores):
            self.end = ("fails", "no rule")
        else:
            self.ask(self.search.mores[number])

    def work(self, bench):
        came = self.came_of_rule(bench)
        # A book's thing has been asked for already, so the recipe gets its text at once.
        while came[0] == "asks" and came[1] in self.texts:
            self.add_answer(came[1])
            came = self.came_of_rule(bench)
        if came[0] == "asks":
            self.ask(came[1])
        else:
            self.end = came

    def came_of_rule(self, bench):
        tree = self.search.rule[0]
        stem = self.search.rule[1]
        if self.way == ("none",):
            self.way = ("rule", told_recipe(tree), stem)
        return bench.came_of(tree, self.way[1], stem, self.answers)

    def ask(self, name):
        self.asked.append(name)
        self.wanted = name

    def add_answer(self, name):
        self.answers = self.answers + ((name, self.texts[name]),)

    def hear(self, text, pile):
        self.texts[self.wanted] = text
        if self.search.rule is None:
            self.hear_book(pile.book_in(text))
        else:
            self.add_answer(self.wanted)

    def hear_book(self, book):
        if book is None:
            self.end = ("fails", "no book")
        else:
            self.search.look_in(book)

    def account_with(self, outcome):
        return (self.way, tuple(self.asked), outcome)


# The things that are on their way stand in a row, each of which waits for the one behind it.
class Settling:
    def __init__(self, book, texts, remembered, bench):
        self.own = book
        self.texts = texts
        self.remembered = remembered
        self.bench = bench
        self.row = []
        self.nexts = {}
        self.pile = BookPile()

    def settle(self, name):
        self.begin(name)
        while len(self.row) > 0:
            making = self.row[-1]
            if making.end is not None:
                self.finish(making.end)
            else:
                self.bring(making, making.wanted)

    def begin(self, name):
        if name in self.texts:
            self.remembered.keep(name, given_account(self.texts[name]))
        else:
            making = Making(name, self.own)
            self.row.append(making)
            self.go_on(making)

    def go_on(self, making):
        making.go_on(self.bench)
        self.nexts[making.name] = making.wanted

    # Brings what is wanted, or begins with it.
    def bring(self, making, name):
        account = self.remembered.kept_of(name)
        if account is not None:
            self.answer(making, text_in(account))
        elif name in self.nexts:
            self.close(ring_from(self.nexts, name))
        else:
            self.begin(name)

    def answer(self, making, text):
        if text is None:
            self.finish(("stopped", making.wanted))
            return
        making.hear(text, self.pile)
        if making.end is None:
            self.go_on(making)

    # A ring's things are the last ones of the row.
    def close(self, ring):
        outcome = ("ring", tuple(ring))
        for name in ring:
            self.finish(outcome)

    def finish(self, outcome):
        making = self.row.pop()
        self.nexts.pop(making.name)
        self.remembered.keep(making.name, making.account_with(outcome))
