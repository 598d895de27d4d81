"""The rows of a desk, read as commands."""

from thingyard.signs import words_of

ALONE = ("book", "works")
WITH_NAME = ("drop", "ask", "why", "leaners")


# A blank that stands ahead, if there is one, is not the text's own.
def behind_blank(text):
    return text[1:] if text.startswith(" ") else text


def put_command(row):
    behind = row[len("put "):]
    name = behind.partition(" ")[0]
    if name == "":
        return ("none",)
    return ("put", name, behind.partition(" ")[2].replace("~", "\n"))


def command_of(row):
    if row.startswith("|"):
        return ("bar", behind_blank(row[1:]))
    if row.startswith("put "):
        return put_command(row)
    words = words_of(row)
    if len(words) == 0:
        return ("nothing",)
    if len(words) == 1 and words[0] in ALONE:
        return (words[0],)
    if len(words) == 2 and words[0] in WITH_NAME:
        return (words[0], words[1])
    return ("none",)
