"""Kinds of n things, and how many rearrangements are of a kind, have an m-th root, or are home at m."""

from turnroots.allroots import how_many_roots
from turnroots.basics import is_whole, must_be_from_one
from turnroots.errors import NoKind, NoNumber, TooMany
from turnroots.hasroot import root_told
from turnroots.past import how_many_past
from turnroots.rounds import from_rounds
from turnroots.turns import MOST_THINGS

MOST_COUNTED = 12


def must_be_counted(n):
    if not is_whole(n) or n < 0:
        raise NoNumber("a whole number from 0 on is asked for")
    if n > MOST_COUNTED:
        raise TooMany("more than 12 things")


def kinds_below(n, most):
    if n == 0:
        return [[]]
    kinds = []
    # First numbers rise, and so do the kinds of what is left behind each: so all come sorted.
    for first in range(1, min(n, most) + 1):
        for rest in kinds_below(n - first, first):
            kinds.append([first] + rest)
    return kinds


def kinds_of(n):
    must_be_counted(n)
    return kinds_below(n, n)


def is_kind(thing):
    if not isinstance(thing, list):
        return False
    for length in thing:
        if not is_whole(length) or length < 1:
            return False
    return thing == sorted(thing, reverse=True) and sum(thing) <= MOST_THINGS


def one_of_kind(kind):
    rounds = []
    begin = 0
    for length in kind:
        rounds.append(list(range(begin, begin + length)))
        begin = begin + length
    return from_rounds(rounds)


def orders_of(n):
    many = 1
    for free in range(1, n + 1):
        many = many * free
    return many


def how_many_of(kind):
    if not is_kind(kind):
        raise NoKind("a kind is a falling list of numbers from 1 on, of at most 40 things in all")
    # Naming the things of one anew leads to all of its kind, and to each as often as there are some that go past it.
    return orders_of(sum(kind)) // how_many_past(one_of_kind(kind))


def how_many_have(n, m):
    kinds = kinds_of(n)
    must_be_from_one(m)
    # Whether there is a root hangs on the kind alone.
    return sum([how_many_of(kind) for kind in kinds if root_told(one_of_kind(kind), m)[0] == "root"])


def how_many_home(n, m):
    must_be_counted(n)
    # Home parts m just where the m-th power leaves all: where it is a root of what leaves all.
    return how_many_roots(list(range(n)), m)
