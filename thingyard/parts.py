"""What single parts of a recipe make of a text."""

from thingyard.signs import words_of


def turned_about(text):
    return text[::-1]


def first_word(text):
    return " ".join(words_of(text)[:1])


def rest_words(text):
    return " ".join(words_of(text)[1:])


def counted(text):
    return str(len(words_of(text)))


def sorted_words(text):
    return " ".join(sorted(words_of(text)))
