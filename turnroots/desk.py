"""The desk: rearrangements by names, asked and changed by rows of words."""

from turnroots.allroots import how_many_roots, nth_root
from turnroots.errors import NoName, NoRoot, NoRow
from turnroots.hasroot import root_told
from turnroots.past import go_past, named_anew
from turnroots.rounds import home_of, kind_of
from turnroots.soonest import soonest_root
from turnroots.texts import read_turn, show_turn
from turnroots.turns import power_of, put_behind, way_back

LETTERS = "abcdefghijklmnopqrstuvwxyz"
FIGURES = "0123456789"
MOST_LETTERS = 8
MOST_FIGURES = 9

# What stands in each place behind a row's first word: "into" is a name that need not stand for anything yet.
PLACES = {
    "turn": ("into", "text"),
    "behind": ("into", "name", "name"),
    "back": ("into", "name"),
    "power": ("into", "name", "signed"),
    "root": ("into", "name", "number"),
    "nth": ("into", "name", "number", "number"),
    "drop": ("name",),
    "show": ("name",),
    "kind": ("name",),
    "home": ("name",),
    "bars": ("name", "number"),
    "many": ("name", "number"),
    "soonest": ("name", "number"),
    "past": ("name", "name"),
    "alike": ("name", "name"),
    "names": (),
}


def is_word_of(signs, most, word):
    return 1 <= len(word) <= most and all([sign in signs for sign in word])


def is_name(word):
    return is_word_of(LETTERS, MOST_LETTERS, word)


def is_number(word):
    return is_word_of(FIGURES, MOST_FIGURES, word) and (word == "0" or word[0] != "0")


def is_signed(word):
    if word.startswith("-"):
        return is_number(word[1:]) and word != "-0"
    return is_number(word)


def fits_place(word, place):
    if place == "text":
        return True
    if place == "number":
        return is_number(word)
    if place == "signed":
        return is_signed(word)
    return is_name(word)


def part_row(row):
    # A TEXT alone may hold blanks: it is all that is left behind its own one.
    if row.startswith("turn "):
        return row.split(" ", 2)
    return row.split(" ")


def is_row(words):
    places = PLACES.get(words[0])
    if places is None or len(words) != len(places) + 1:
        return False
    return all([fits_place(word, place) for word, place in zip(words[1:], places)])


def read_row(row):
    if not isinstance(row, str):
        raise NoRow("no text")
    words = part_row(row)
    if not is_row(words):
        raise NoRow("no row that the desk knows")
    return words


def with_blanks(things):
    if len(things) == 0:
        return "none"
    return " ".join([str(thing) for thing in things])


def yes_or_no(truth):
    return "yes" if truth else "no"


def one_root(p, m):
    told = root_told(p, m)
    if told[0] == "bars":
        raise NoRoot("there is no such root")
    return told[1]


def show_bars(p, m):
    told = root_told(p, m)
    if told[0] == "root":
        return "none"
    return with_blanks(told[1:])


def show_soonest(p, m):
    told = soonest_root(p, m)
    if told is None:
        return "none"
    return str(told[0])


def make_turn(word, handed):
    if word == "turn":
        return read_turn(handed[0])
    if word == "behind":
        return put_behind(handed[0], handed[1])
    if word == "back":
        return way_back(handed[0])
    if word == "power":
        return power_of(handed[0], handed[1])
    if word == "root":
        return one_root(handed[0], handed[1])
    return nth_root(handed[0], handed[1], handed[2])


def answer_row(word, handed):
    if word == "show":
        return show_turn(handed[0])
    if word == "kind":
        return with_blanks(kind_of(handed[0]))
    if word == "home":
        return str(home_of(handed[0]))
    if word == "bars":
        return show_bars(handed[0], handed[1])
    if word == "many":
        return str(how_many_roots(handed[0], handed[1]))
    if word == "soonest":
        return show_soonest(handed[0], handed[1])
    if word == "past":
        return yes_or_no(go_past(handed[0], handed[1]))
    return yes_or_no(named_anew(handed[0], handed[1]) is not None)


class Desk:
    def __init__(self):
        self.kept = {}

    def names(self):
        return sorted(self.kept)

    def look_up(self, name):
        if name not in self.kept:
            raise NoName("nothing stands by this name")
        return self.kept[name]

    def hand_over(self, words):
        handed = []
        for word, place in zip(words[1:], PLACES[words[0]]):
            if place == "name":
                handed.append(self.look_up(word))
            elif place == "text":
                handed.append(word)
            elif place != "into":
                handed.append(int(word))
        return handed

    def say(self, row):
        words = read_row(row)
        handed = self.hand_over(words)
        if words[0] == "names":
            return with_blanks(self.names())
        if words[0] == "drop":
            self.kept.pop(words[1])
            return "ok"
        if PLACES[words[0]][0] == "into":
            # Made ahead of being kept, so that what is refused changes nothing.
            self.kept[words[1]] = make_turn(words[0], handed)
            return "ok"
        return answer_row(words[0], handed)
