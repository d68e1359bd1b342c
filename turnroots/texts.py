"""Rearrangements written by their rounds, and read back."""

from turnroots.errors import NoRounds, NoText
from turnroots.rounds import from_rounds, rounds_of
from turnroots.turns import MOST_THINGS


def show_round(ring):
    return " ".join([str(thing) for thing in ring])


def show_turn(p):
    return "(" + ")(".join([show_round(ring) for ring in rounds_of(p)]) + ")"


def read_thing(word):
    # Python's own reading of numbers would take signs, blanks and figures that no thing is written with.
    for thing in range(MOST_THINGS):
        if word == str(thing):
            return thing
    raise NoText("no number from 0 to 39, plainly written")


def read_round(text):
    return [read_thing(word) for word in text.split(" ")]


def read_rounds(text):
    if text == "()":
        return []
    return [read_round(part) for part in text[1:-1].split(")(")]


def read_turn(text):
    if not isinstance(text, str):
        raise NoText("no text")
    rounds = read_rounds(text)
    try:
        told = from_rounds(rounds)
    except NoRounds:
        raise NoText("its rounds lead to no rearrangement") from None
    # Each has one writing: so whatever was read with less care than is due shows here.
    if show_turn(told) != text:
        raise NoText("not the one writing of a rearrangement")
    return told
