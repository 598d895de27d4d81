"""A recipe's text, cut into tokens."""

from thingyard.errors import BadRecipe
from thingyard.signs import is_letter, is_row_sign


def is_word_sign(sign):
    return is_letter(sign) or sign == "." or sign == "*"


def word_at(text, place):
    end = place
    while end < len(text) and is_word_sign(text[end]):
        end += 1
    return text[place:end]


def quoted_at(text, place):
    end = text.find('"', place + 1)
    if end < 0:
        raise BadRecipe(place)
    inner = text[place + 1:end]
    # Sign by sign, not by is_text: a quote is not refused for its length.
    if not all([is_row_sign(sign) for sign in inner]):
        raise BadRecipe(place)
    return inner


def token_at(text, place):
    sign = text[place]
    if sign == "(" or sign == ")":
        return ("bracket", sign, place)
    if sign == '"':
        return ("quote", quoted_at(text, place), place)
    if is_word_sign(sign):
        return ("word", word_at(text, place), place)
    raise BadRecipe(place)


def place_behind(token):
    # The text of a quote lacks the two signs around it.
    around = 2 if token[0] == "quote" else 0
    return token[2] + len(token[1]) + around


def tokens_of(text):
    tokens = []
    place = 0
    while place < len(text):
        if text[place] == " ":
            place += 1
        else:
            token = token_at(text, place)
            tokens.append(token)
            place = place_behind(token)
    return tokens
