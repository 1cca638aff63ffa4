"""Rows that tell a house what to do, or ask it."""

from pairfloors.errors import BadRow
from pairfloors.kinds import kind
from pairfloors.runtext import run_of
from pairfloors.words import coats_of, letters_of, number_of

# For each first word what follows it: n stands for a number word, r for a run word, f for the letters of a floor.
FORMS = {
    "paint": "nnn",
    "lay": "r",
    "link": "nn",
    "cut": "nn",
    "aim": "f",
    "undo": "",
    "redo": "",
    "begin": "",
    "keep": "",
    "drop": "",
    "floor": "",
    "can": "",
    "kind": "n",
    "trials": "",
}


def told(house, row):
    """Do what the row says, and return what is told of it."""
    name, *words = row.split(" ")
    if name not in FORMS or len(words) != len(FORMS[name]):
        raise BadRow(row)
    values = [value_of(sort, word) for sort, word in zip(FORMS[name], words)]
    if None in values:
        raise BadRow(row)
    return done(house, name, values)


def value_of(sort, word):
    """What the word stands for where one of this sort is due, or None if it is none."""
    if sort == "n":
        return number_of(word)
    return run_of(word) if sort == "r" else coats_of(word)


def done(house, name, values):
    """Do the deed, or the like, that has the name, or answer the question."""
    match name:
        case "paint":
            house.paint(*values)
        case "lay":
            house.lay(*values)
        case "link":
            house.link(*values)
        case "cut":
            house.cut(*values)
        case "aim":
            house.aim(*values)
        case "undo":
            house.undo()
        case "redo":
            house.redo()
        case "begin":
            house.begin()
        case "keep":
            house.keep()
        case "drop":
            house.drop()
        case _:
            return asked(house, name, values)
    return "ok"


def asked(house, name, values):
    """The answer to the question that has the name."""
    if name == "floor":
        return letters_of(house.floor())
    if name == "can":
        return "yes" if house.can() else "no"
    if name == "kind":
        return kind(house.web(), values[0])
    return str(house.trials())
