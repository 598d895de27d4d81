"""Readers: they look at accounts of things, without making any."""

from thingyard.books import BookPile, read_rows
from thingyard.finding import Search
from thingyard.leaning import ranks
from thingyard.signs import is_name, is_plain, is_text
from thingyard.telling import told_recipe
from thingyard.works import worked


def is_way(thing):
    if not isinstance(thing, tuple):
        return False
    if thing == ("given",) or thing == ("none",):
        return True
    if len(thing) != 3 or thing[0] != "rule" or not isinstance(thing[1], str):
        return False
    return thing[2] is None or is_plain(thing[2])


def is_row_of_names(thing):
    if not isinstance(thing, tuple) or not all([is_name(name) for name in thing]):
        return False
    return len(set(thing)) == len(thing)


def is_told_ring(thing):
    return is_row_of_names(thing) and len(thing) > 0 and thing[0] == min(thing)


# All on a ring tell the same long row of names, so each row is looked at once: known tells those that were.
def is_known_ring(thing, known):
    if not isinstance(thing, tuple) or not all([isinstance(name, str) for name in thing]):
        return False
    if thing not in known:
        known[thing] = is_told_ring(thing)
    return known[thing]


def is_outcome(thing, known):
    if not isinstance(thing, tuple) or len(thing) != 2:
        return False
    if thing[0] == "text" or thing[0] == "fails":
        return is_text(thing[1])
    if thing[0] == "stopped":
        return is_name(thing[1])
    return thing[0] == "ring" and is_known_ring(thing[1], known)


def is_account(thing, known):
    if not isinstance(thing, tuple) or len(thing) != 3:
        return False
    return is_way(thing[0]) and is_row_of_names(thing[1]) and is_outcome(thing[2], known)


# Of these accounts those that are of the right form.
def formed_of(accounts):
    known = {}
    return dict([(name, account) for name, account in accounts.items() if is_account(account, known)])


# One working is enough: those used are the ones that would have been asked for one by one.
def expected_by_rule(rule, books_asked, texts):
    result = worked(rule[0], rule[1], texts)
    came = result[0]
    asked = books_asked + [name for name in result[1] if name not in books_asked]
    if came[0] == "asks":
        asked.append(came[1])
    return (("rule", told_recipe(rule[0]), rule[1]), tuple(asked), came)


def is_right_behind(ring, name, other):
    if name not in ring:
        return False
    place = ring.index(name) + 1
    return ring[place if place < len(ring) else 0] == other


def is_held_up(name, outcome, other):
    if outcome[0] == "ring":
        return is_right_behind(outcome[1], name, other)
    return outcome == ("stopped", other)


# Looks at each account by itself; of the others it sees those alone that are of the right form.
class Reader:
    def __init__(self, given, text, accounts):
        self.texts = given
        self.own = read_rows(text)
        self.formed = formed_of(accounts)
        self.pile = BookPile()

    # The texts of those that were asked for, without those that have none.
    def texts_of(self, names):
        texts = {}
        for name in names:
            if name in self.formed and self.formed[name][2][0] == "text":
                texts[name] = self.formed[name][2][1]
        return texts

    # What a thing comes to from these texts, as an account; one that lacks a text ends as what it asks for.
    def expected(self, name, texts):
        search = Search(name, self.own)
        asked = []
        while search.rule is None and len(asked) < len(search.mores):
            more = search.mores[len(asked)]
            asked.append(more)
            if more not in texts:
                return (("none",), tuple(asked), ("asks", more))
            book = self.pile.book_in(texts[more])
            if book is None:
                return (("none",), tuple(asked), ("fails", "no book"))
            search.look_in(book)
        if search.rule is None:
            return (("none",), tuple(asked), ("fails", "no rule"))
        return expected_by_rule(search.rule, asked, texts)

    def stands_alone(self, name):
        if name not in self.formed:
            return False
        account = self.formed[name]
        if name in self.texts:
            return account == (("given",), (), ("text", self.texts[name]))
        told = self.expected(name, self.texts_of(account[1]))
        if account[:2] != told[:2]:
            return False
        if told[2][0] == "asks":
            return told[2][1] in self.formed and is_held_up(name, account[2], told[2][1])
        return account[2] == told[2]


def faulty(given, text, accounts):
    reader = Reader(given, text, accounts)
    return sorted([name for name in accounts if not reader.stands_alone(name)])


# What was asked for, of those with one of these outcomes.
def needs_of(accounts, kinds):
    return dict([(name, list(account[1])) for name, account in accounts.items() if account[2][0] in kinds])


def none_goes_round(needs):
    ranked = ranks(needs)
    return all([ranked[name] is not None for name in ranked])


# Each holds the next one's outcome against its own: so, all the way round, they are all the same.
def rings_are_whole(accounts):
    rings = [account for account in accounts.values() if account[2][0] == "ring"]
    return all([accounts[account[1][-1]][2] == account[2] for account in rings])


def stands(given, text, accounts):
    if not isinstance(accounts, dict) or not all([is_name(name) for name in accounts]):
        return False
    if len(faulty(given, text, accounts)) > 0:
        return False
    stops = dict([(name, [account[2][1]]) for name, account in accounts.items() if account[2][0] == "stopped"])
    # What has a text, or fails, asked for such alone as have texts, so no way round leads through others.
    made = needs_of(accounts, ("text", "fails"))
    return none_goes_round(made) and none_goes_round(stops) and rings_are_whole(accounts)
