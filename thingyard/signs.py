"""Texts, names and words: which signs they are made of."""

MOST_SIGNS = 900
MOST_LETTERS = 8
KEPT_WORDS = (
    "of", "if", "is", "then", "else", "each", "do", "it",
    "back", "first", "rest", "count", "sorted", "fail", "line", "more",
)


def is_row_sign(sign):
    # Two spans, since the one sign between them belongs to no text.
    return " " <= sign <= "$" or "&" <= sign <= "~"


def is_letter(sign):
    return "a" <= sign <= "z"


def is_text(thing):
    if not isinstance(thing, str) or len(thing) > MOST_SIGNS:
        return False
    return all([sign == "\n" or is_row_sign(sign) for sign in thing])


def is_plain(thing):
    if not isinstance(thing, str) or not 1 <= len(thing) <= MOST_LETTERS:
        return False
    return all([is_letter(sign) for sign in thing]) and thing not in KEPT_WORDS


def is_name(thing):
    if not isinstance(thing, str):
        return False
    parts = thing.split(".")
    return len(parts) <= 2 and all([is_plain(part) for part in parts])


def family_of(name):
    if "." not in name:
        return None
    return name.partition(".")[0]


def stem_of(name):
    if "." not in name:
        return None
    return name.partition(".")[2]


def words_of(text):
    # A bare split would also part at tabs and other signs, which part no words.
    return [word for word in text.replace("\n", " ").split(" ") if word != ""]
