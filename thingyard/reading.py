"""A recipe's text, read as a tree."""

from thingyard.errors import BadRecipe
from thingyard.signs import is_name, is_plain
from thingyard.tokens import tokens_of
from thingyard.trees import MOST_HEIGHT, MOST_PARTS, height_of, size_of

MOST_DEPTH = 40
LEADING_WORDS = ("of", "back", "first", "rest", "count", "sorted", "fail")


# The tokens of a recipe's text, taken one by one from the left.
class TokenRow:
    def __init__(self, text, family):
        self.tokens = tokens_of(text)
        self.taken = 0
        self.end = len(text)
        self.family = family

    def is_at_end(self):
        return self.taken == len(self.tokens)

    def is_at_closing(self):
        return not self.is_at_end() and self.tokens[self.taken][:2] == ("bracket", ")")

    def take(self):
        if self.is_at_end():
            raise BadRecipe(self.end)
        self.taken += 1
        return self.tokens[self.taken - 1]

    def take_word(self, word):
        token = self.take()
        if token[:2] != ("word", word):
            raise BadRecipe(token[2])


def joined(parts):
    if len(parts) == 1:
        return parts[0]
    return tuple(["join"] + parts)


def read_if(row, depth, within):
    parts = ["if", read_part(row, depth, within)]
    for word in ("is", "then", "else"):
        row.take_word(word)
        parts.append(read_part(row, depth, within))
    return tuple(parts)


def read_each(row, depth, within):
    walked = read_part(row, depth, within)
    row.take_word("do")
    return ("each", walked, read_part(row, depth, True))


def read_bracket(row, depth, within):
    parts = [read_part(row, depth, within)]
    while not row.is_at_closing():
        parts.append(read_part(row, depth, within))
    row.take()
    return joined(parts)


# The part that a word makes by itself.
def read_bare(token, family, within):
    word = token[1]
    if word == "line":
        return ("line",)
    if word == "it" and within:
        return ("it",)
    if word == "*" and family:
        return ("stem",)
    if is_name(word):
        return ("thing", word)
    if family and word.endswith(".*") and is_plain(word[:-2]):
        return ("kin", word[:-2])
    raise BadRecipe(token[2])


def read_word(row, token, depth, within):
    word = token[1]
    if word == "if":
        return read_if(row, depth + 1, within)
    if word == "each":
        return read_each(row, depth + 1, within)
    if word in LEADING_WORDS:
        return (word, read_part(row, depth + 1, within))
    return read_bare(token, row.family, within)


def read_part(row, depth, within):
    # The bound on the depth also bounds how deep this recursion goes.
    token = row.take()
    if depth > MOST_DEPTH:
        raise BadRecipe(token[2])
    if token[0] == "quote":
        return ("text", token[1])
    if token[0] == "word":
        return read_word(row, token, depth, within)
    if token[1] == "(":
        return read_bracket(row, depth + 1, within)
    raise BadRecipe(token[2])


def read_recipe(text, family):
    row = TokenRow(text, family)
    parts = [read_part(row, 1, False)]
    while not row.is_at_end():
        parts.append(read_part(row, 1, False))
    tree = joined(parts)
    if height_of(tree) > MOST_HEIGHT or size_of(tree) > MOST_PARTS:
        raise BadRecipe(len(text))
    return tree
