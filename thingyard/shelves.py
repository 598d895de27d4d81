"""Shelves: they keep what was used last, and let go of the rest."""

from thingyard.errors import BadBound

MOST_KEYS = 1000


def is_bound(thing):
    # True and False are whole numbers to Python, but none here.
    if not isinstance(thing, int) or isinstance(thing, bool):
        return False
    return 0 <= thing <= MOST_KEYS


class Shelf:
    def __init__(self, bound):
        if not is_bound(bound):
            raise BadBound("a bound is a number from 0 to 1000")
        self.bound = bound
        # In the order of use, the key used longest ago first.
        self.kept = {}

    def look(self, key):
        if key not in self.kept:
            return None
        thing = self.kept.pop(key)
        self.kept[key] = thing
        return thing

    def lay(self, key, thing):
        self.kept.pop(key, None)
        self.kept[key] = thing
        if len(self.kept) > self.bound:
            self.kept.pop(list(self.kept)[0])

    def keys_kept(self):
        return list(self.kept)
