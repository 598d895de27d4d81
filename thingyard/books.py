"""Books: rows of rules and mores, read from a text and told as one."""

from thingyard.errors import BadBook, BadRecipe, BadText, YardError
from thingyard.reading import read_recipe
from thingyard.signs import is_name, is_plain, is_text, words_of
from thingyard.telling import told_recipe

MOST_RULES = 40
MOST_MORES = 9


def is_family_head(word):
    return word.endswith(".*") and is_plain(word[:-2])


def first_place(row):
    return len(row) - len(row.lstrip(" "))


# The place of the sign = that stands behind a head and its blanks, None where it lacks.
def equals_place(row, head):
    behind = row[first_place(row) + len(head):].lstrip(" ")
    if not behind.startswith("="):
        return None
    return len(row) - len(behind)


def read_rule(row, number, rules):
    begin = first_place(row)
    head = words_of(row)[0]
    equals = equals_place(row, head)
    if equals is None or not (is_name(head) or is_family_head(head)):
        raise BadBook(number, begin)
    if head in [rule[0] for rule in rules] or len(rules) == MOST_RULES:
        raise BadBook(number, begin)
    try:
        return (head, read_recipe(row[equals + 1:], is_family_head(head)))
    except BadRecipe as refusal:
        raise BadBook(number, equals + 1 + refusal.place) from refusal


def read_more(row, number, mores):
    words = words_of(row)
    if len(words) != 2 or not is_name(words[1]):
        raise BadBook(number, first_place(row))
    if words[1] in mores or len(mores) == MOST_MORES:
        raise BadBook(number, len(row.rstrip(" ")) - len(words[1]))
    return words[1]


# The book of a text of whatever length: a told text may be longer than one that is read.
def read_rows(text):
    rules = []
    mores = []
    for number, row in enumerate(text.split("\n"), start=1):
        words = words_of(row)
        if len(words) == 0 or row.startswith("#"):
            continue
        if words[0] == "more":
            mores.append(read_more(row, number, mores))
        else:
            rules.append(read_rule(row, number, rules))
    return (rules, mores)


def read_book(text):
    if not is_text(text):
        raise BadText("a book is a text")
    return read_rows(text)


def book_or_none(text):
    try:
        return read_book(text)
    except YardError:
        return None


# The same texts are read as books again and again: each once here.
class BookPile:
    def __init__(self):
        self.read = {}

    def book_in(self, text):
        if text not in self.read:
            self.read[text] = book_or_none(text)
        return self.read[text]


def told_book(book):
    rows = [head + " = " + told_recipe(tree) + "\n" for head, tree in book[0]]
    rows.extend(["more " + name + "\n" for name in book[1]])
    return "".join(rows)
