"""Recipes as trees of parts: their height, their size, and what is one at all."""

from thingyard.signs import is_name, is_plain, is_text

MOST_HEIGHT = 12
MOST_PARTS = 100
# How many parts stand in a part of each kind that has a set number of them.
PARTS_WITHIN = {
    "of": 1, "if": 4, "each": 2, "back": 1, "first": 1, "rest": 1, "count": 1, "sorted": 1, "fail": 1,
}


def parts_in(part):
    if part[0] == "join" or part[0] in PARTS_WITHIN:
        return list(part[1:])
    return []


def parts_below(level):
    below = []
    for part in level:
        below.extend(parts_in(part))
    return below


# Trees are walked level by level: a recursion would hang on how deep they are.
def height_of(tree):
    height = 0
    level = [tree]
    while len(level) > 0:
        height += 1
        level = parts_below(level)
    return height


def size_of(tree):
    size = 0
    level = [tree]
    while len(level) > 0:
        size += len(level)
        level = parts_below(level)
    return size


def is_quotable(thing):
    return is_text(thing) and '"' not in thing and "\n" not in thing


def is_bare(part, family, within):
    if part[0] == "it":
        return within
    if part[0] == "stem":
        return family
    return part[0] == "line"


def is_named(part, family):
    if part[0] == "text":
        return is_quotable(part[1])
    if part[0] == "thing":
        return is_name(part[1])
    return part[0] == "kin" and family and is_plain(part[1])


def is_part(thing, family, within):
    # The kind must be known as a text ahead of every look-up: lists can't be looked up, nor very deep tuples.
    if not isinstance(thing, tuple) or len(thing) == 0 or not isinstance(thing[0], str):
        return False
    if thing[0] == "join":
        return len(thing) >= 3
    if thing[0] in PARTS_WITHIN:
        return len(thing) == 1 + PARTS_WITHIN[thing[0]]
    if len(thing) == 1:
        return is_bare(thing, family, within)
    return len(thing) == 2 and is_named(thing, family)


# The parts below those of a level, each with whether `it` may stand within it.
def pairs_below(pairs):
    below = []
    for part, within in pairs:
        if part[0] == "each":
            below.append((part[1], within))
            below.append((part[2], True))
        else:
            below.extend([(inner, within) for inner in parts_in(part)])
    return below


def is_tree(thing, family, within):
    pairs = [(thing, within)]
    height = 0
    size = 0
    while len(pairs) > 0:
        height += 1
        size += len(pairs)
        if height > MOST_HEIGHT or size > MOST_PARTS:
            return False
        if not all([is_part(part, family, inside) for part, inside in pairs]):
            return False
        pairs = pairs_below(pairs)
    return True
