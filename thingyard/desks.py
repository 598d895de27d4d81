"""Desks: a text's rows, done one by one in a yard."""

from thingyard.commands import command_of
from thingyard.errors import BadBook, YardError
from thingyard.signs import is_name
from thingyard.yards import Yard

DESK_BOUND = 1000


# The texts of the bars right behind a place.
def bars_from(rows, place):
    bars = []
    while place < len(rows) and rows[place].startswith("|"):
        bars.append(command_of(rows[place])[1])
        place += 1
    return bars


def booked(yard, bars):
    try:
        yard.rebook("\n".join(bars))
    except BadBook as refusal:
        return "refused " + str(refusal.row) + " " + str(refusal.place)
    except YardError:
        return "refused"
    return "ok"


def told_outcome(outcome):
    if outcome[0] == "ring":
        return "ring " + " ".join(outcome[1])
    return outcome[0] + " " + outcome[1]


def told_names(names, instead):
    return " ".join(names) if len(names) > 0 else instead


def told_why(account):
    return told_outcome(account[2]) + " by " + told_names(account[1], "nothing")


def told_leaners(yard, name):
    return told_names(yard.leaning_on(name) if is_name(name) else [], "none")


def done(yard, command):
    if command[0] == "put":
        yard.put(command[1], command[2])
        return "ok"
    if command[0] == "drop":
        yard.drop(command[1])
        return "ok"
    if command[0] == "ask":
        return told_outcome(yard.outcome(command[1]))
    if command[0] == "why":
        return told_why(yard.account(command[1]))
    if command[0] == "leaners":
        return told_leaners(yard, command[1])
    if command[0] == "works":
        return str(len(yard.log()))
    return "no row"


def answer_to(yard, command):
    try:
        return done(yard, command).replace("\n", "~")
    except YardError:
        return "refused"


def answers_of(text):
    yard = Yard("", DESK_BOUND)
    rows = text.split("\n")
    answers = []
    place = 0
    while place < len(rows):
        command = command_of(rows[place])
        place += 1
        if command[0] == "book":
            bars = bars_from(rows, place)
            place += len(bars)
            answers.append(booked(yard, bars))
        elif command[0] != "nothing":
            answers.append(answer_to(yard, command))
    return answers
