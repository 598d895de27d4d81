"""A yard done the plain way, by recursion and from the beginning each time, to hold the program's own against."""

from thingyard.books import read_book
from thingyard.errors import BadBook
from thingyard.finding import rule_in
from thingyard.telling import told_recipe
from thingyard.works import worked

LETTERS = "abcdefghijklmnopqrstuvwxyz"


def stems(number):
    return [LETTERS[k // 676] + LETTERS[k // 26 % 26] + LETTERS[k % 26] for k in range(number)]


class PlainYard:

    def __init__(self, given, text):
        self.given_texts, self.rules, self.known = dict(given), read_book(text), {}

    def account(self, name):
        self.settle(name, [])
        return self.known[name]

    def texts(self):
        return {name: account[2][1] for name, account in self.known.items() if account[2][0] == "text"}

    def settle(self, name, path):
        while name not in self.known:
            way, asked, came = self.tried(name)
            if came[0] != "asks":
                self.known[name] = (way, asked, came)
            elif came[1] in self.known:
                self.known[name] = (way, asked, ("stopped", came[1]))
            elif came[1] in path + [name]:
                self.close((path + [name])[(path + [name]).index(came[1]):])
            else:
                self.settle(came[1], path + [name])

    def close(self, ring):
        place = ring.index(min(ring))
        told = tuple(ring[place:] + ring[:place])
        accounts = {name: self.tried(name) for name in ring}
        for name, (way, asked, came) in accounts.items():
            self.known[name] = (way, asked, ("ring", told))

    # From the beginning, as far as the texts that are known by now let it come.
    def tried(self, name):
        if name in self.given_texts:
            return (("given",), (), ("text", self.given_texts[name]))
        texts = self.texts()
        book, mores, asked = self.rules, [], []
        while rule_in(book, name) is None:
            mores += [more for more in book[1] if more not in mores]
            if len(asked) == len(mores):
                return (("none",), tuple(asked), ("fails", "no rule"))
            asked.append(mores[len(asked)])
            if asked[-1] not in texts:
                return (("none",), tuple(asked), ("asks", asked[-1]))
            try:
                book = read_book(texts[asked[-1]])
            except BadBook:
                return (("none",), tuple(asked), ("fails", "no book"))
        tree, stem = rule_in(book, name)
        came, used = worked(tree, stem, texts)
        asked += [other for other in used + [came[1]] * (came[0] == "asks") if other not in asked]
        return (("rule", told_recipe(tree), stem), tuple(asked), came)


def by_chance(chance):
    """A yard's given texts and book, with rings, stops and books among its things."""
    names = ["a", "b", "c", "d", "e", "f.a", "f.b", "g.a", "g.b", "lib", "bib"]

    def recipe(family):
        parts = []
        for _ in range(chance.choice([1, 1, 2])):
            name = chance.choice(names)
            parts.append(chance.choice([
                name, name, '"x"', "of " + name, "if " + name + ' is "x" then ' + chance.choice(names) + ' else "y"',
                "each " + name + " do of it", '"' + name + '"', "count " + name, 'fail "z"', 'of "' + name + '"',
            ] + ["f.*", "g.*", "of *", "*"] * family))
        return " ".join(parts)

    def book(mores):
        rows = []
        for head in chance.sample(names[:9] + ["f.*", "g.*"], chance.choice([1, 2, 4])):
            rows.append(head + " = " + recipe(head.endswith("*")))
        return "\n".join(rows + ["more " + name for name in mores])

    text = book(chance.choice([[], ["lib"], ["lib", "bib"], ["bib"]]))
    if chance.random() < 0.2:
        text += '\nlib = of "bib"'
    given = {name: chance.choice(["x", "y", "a", "b c", "f.a", "", "p q"]) for name in names[:9] if chance.random() < 0.25}
    for name in ("lib", "bib"):
        if chance.random() < 0.8:
            given[name] = chance.choice([book([]), book(["bib"]), book(["lib", "a"]), "no book"])
    return names, given, text
