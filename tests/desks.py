"""Desks that several tests share, and a desk by the document's own words."""

import re
import unittest
from math import gcd

import worked
from worked import FORTY_ALONE, FORTY_ROUND, written
from turnroots.allroots import all_roots
from turnroots.desk import Desk
from turnroots.errors import NoFit, NoName, NoNumber, NoRoot, NoRow, NoText, TooMany, TurnError
from turnroots.hasroot import root_told
from turnroots.texts import read_turn

WORDS = "turn behind back power root nth drop show kind home bars many soonest past alike names".split()
NAME = "([a-z]{1,8})"
NUMBER = "(0|[1-9][0-9]{0,8})"
SIGNED = "(0|-?[1-9][0-9]{0,8})"
FORMS = [
    "turn " + NAME + " ((?:.|\n)*)",
    "behind " + NAME + " " + NAME + " " + NAME,
    "back " + NAME + " " + NAME,
    "power " + NAME + " " + NAME + " " + SIGNED,
    "root " + NAME + " " + NAME + " " + NUMBER,
    "nth " + NAME + " " + NAME + " " + NUMBER + " " + NUMBER,
    "(?:drop|show|kind|home) " + NAME,
    "(?:bars|many|soonest) " + NAME + " " + NUMBER,
    "(?:past|alike) " + NAME + " " + NAME,
    "names",
]


def bars(p, m):
    """The least length that bars, by trying all numbers that part m; m is small."""
    for l, many in sorted(worked.many_by_length(p).items()):
        least = next(d for d in range(1, m + 1) if gcd(d * l, m) == d)
        if many % least != 0:
            return (l, many, least)
    return None


def with_blanks(things):
    return " ".join(str(thing) for thing in things) or "none"


class Expected:
    """A desk by the document's own words, of small numbers; its answers are texts or classes of refusals."""

    def __init__(self):
        self.turns = {}

    def say(self, row):
        for form in FORMS:
            found = re.fullmatch(form, row)
            if found:
                return self.answer(row.split(" ")[0], list(found.groups()))
        return NoRow

    def answer(self, word, parts):
        standing = {"turn": [], "behind": parts[1:], "back": parts[1:], "power": parts[1:2], "root": parts[1:2],
                    "nth": parts[1:2], "past": parts, "alike": parts, "names": []}.get(word, parts[:1])
        if not all(name in self.turns for name in standing):
            return NoName
        handed = [self.turns[name] for name in standing]
        numbers = [int(part) for part in parts if re.fullmatch("-?[0-9]+", part)] if word != "turn" else []
        if word in ("behind", "past", "alike") and len(handed[0]) != len(handed[1]):
            return NoFit
        if word in ("root", "nth", "bars", "many", "soonest") and numbers[0] < 1:
            return NoNumber
        return getattr(self, "do_" + word)(parts, handed, numbers)

    def put(self, name, p):
        self.turns[name] = p
        return "ok"

    def do_turn(self, parts, handed, numbers):
        try:
            return self.put(parts[0], read_turn(parts[1]))
        except NoText:
            return NoText

    def do_behind(self, parts, handed, numbers):
        return self.put(parts[0], worked.behind(*handed))

    def do_back(self, parts, handed, numbers):
        return self.put(parts[0], worked.back(handed[0]))

    def do_power(self, parts, handed, numbers):
        return self.put(parts[0], worked.power_by_doubling(handed[0], numbers[0]))

    def do_root(self, parts, handed, numbers):
        if bars(handed[0], numbers[0]) is not None:
            return NoRoot
        return self.put(parts[0], root_told(handed[0], numbers[0])[1])

    def do_nth(self, parts, handed, numbers):
        many = worked.roots_counted(handed[0], numbers[0])
        if many > 2000:
            return TooMany
        if numbers[1] >= many:
            return NoNumber
        return self.put(parts[0], sorted(all_roots(handed[0], numbers[0]))[numbers[1]])

    def do_drop(self, parts, handed, numbers):
        del self.turns[parts[0]]
        return "ok"

    def do_show(self, parts, handed, numbers):
        return written(handed[0])

    def do_kind(self, parts, handed, numbers):
        return with_blanks(sorted([len(ring) for ring in worked.rounds(handed[0])], reverse=True))

    def do_home(self, parts, handed, numbers):
        return str(worked.home(handed[0]))

    def do_bars(self, parts, handed, numbers):
        return with_blanks(bars(handed[0], numbers[0]) or ())

    def do_many(self, parts, handed, numbers):
        return str(worked.roots_counted(handed[0], numbers[0]))

    def do_soonest(self, parts, handed, numbers):
        if len(handed[0]) > 16:
            return TooMany
        home = worked.soonest_home(handed[0], numbers[0])
        return "none" if home is None else str(home)

    def do_past(self, parts, handed, numbers):
        return "yes" if worked.behind(*handed) == worked.behind(*handed[::-1]) else "no"

    def do_alike(self, parts, handed, numbers):
        return "yes" if worked.many_by_length(handed[0]) == worked.many_by_length(handed[1]) else "no"

    def do_names(self, parts, handed, numbers):
        return with_blanks(sorted(self.turns))


def desk_of(**texts):
    desk = Desk()
    for name, text in texts.items():
        assert desk.say("turn " + name + " " + text) == "ok"
    return desk


def full_desk():
    """Some that fit one another and some that don't: a swap, a round of three, of no things, of forty."""
    return desk_of(
        a="(0 1)", b="(0)(1)", c="(0 1 2)", d="(0 2)(1)", e="()", f=FORTY_ALONE, g=FORTY_ROUND, h="(0 1)(2 3)",
        longer="".join("(" + str(i) + ")" for i in range(17)),
    )


def all_told(desk):
    return [desk.say("names"), desk.names()] + [desk.say("show " + name) for name in desk.names()]


class DeskCase(unittest.TestCase):
    def check_rows(self, desk, rows):
        for row, answer in rows:
            told = desk.say(row)
            self.assertIs(type(told), str, row)
            self.assertEqual(told, answer, row)

    def check_refused(self, desk, kind, rows):
        for row in rows:
            before = all_told(desk)
            with self.subTest(row=str(row)[:60] if isinstance(row, str) else "no text"):
                with self.assertRaises(TurnError) as caught:
                    desk.say(row)
                self.assertIs(type(caught.exception), kind, str(row)[:60] if isinstance(row, str) else None)
                self.assertEqual(len(caught.exception.args), 1)
                self.assertIs(type(caught.exception.args[0]), str)
                self.assertEqual(str(caught.exception), caught.exception.args[0])
            self.assertEqual(all_told(desk), before)
