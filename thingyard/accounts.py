"""Accounts of things, and what a yard remembers of them."""

from thingyard.leaning import leaners


def given_account(text):
    return (("given",), (), ("text", text))


# The text that an account's thing came to, None where it has none.
def text_in(account):
    outcome = account[2]
    return outcome[1] if outcome[0] == "text" else None


class Accounts:
    def __init__(self):
        self.kept = {}

    def keep(self, name, account):
        self.kept[name] = account

    def kept_of(self, name):
        return self.kept.get(name)

    def leaning_on(self, name):
        needs = dict([(other, list(account[1])) for other, account in self.kept.items()])
        return leaners(needs, [name])

    def let_go(self, name):
        # What was asked for has an account of its own: without one nothing leans on it.
        if name not in self.kept:
            return
        for leaner in self.leaning_on(name):
            self.kept.pop(leaner)
        # A thing that leans on itself is gone already.
        self.kept.pop(name, None)

    def let_all_go(self):
        self.kept = {}

    def in_order(self):
        return dict([(name, self.kept[name]) for name in sorted(self.kept)])
