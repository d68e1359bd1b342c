"""Answers worked out by the document's own words, and inputs that several tests share."""

import itertools
import random
from math import gcd


def all_turns(n):
    return [list(p) for p in itertools.permutations(range(n))]


def behind(p, q):
    return [p[q[i]] for i in range(len(p))]


def back(p):
    told = [None] * len(p)
    for i in range(len(p)):
        told[p[i]] = i
    return told


def leaves_all(n):
    return list(range(n))


def power_step_by_step(p, k):
    base = p if k >= 0 else back(p)
    told = leaves_all(len(p))
    for _ in range(abs(k)):
        told = behind(base, told)
    return told


def power_by_doubling(p, k):
    base = list(p) if k >= 0 else back(p)
    told = leaves_all(len(p))
    left = abs(k)
    while left:
        if left % 2:
            told = behind(base, told)
        base = behind(base, base)
        left //= 2
    return told


def round_from(p, i):
    told = [i]
    while p[told[-1]] != i:
        told.append(p[told[-1]])
    return told


def rounds(p):
    told = []
    for i in range(len(p)):
        walked = round_from(p, i)
        if min(walked) == i:
            told.append(walked)
    return told


def many_by_length(p):
    many = {}
    for walked in rounds(p):
        many[len(walked)] = many.get(len(walked), 0) + 1
    return many


def right_numbers(l, m, tried):
    return [d for d in tried if gcd(d * l, m) == d]


def parts_of(primes):
    """All numbers that part the product of primes, each prime to its power."""
    told = [1]
    for prime, power in primes.items():
        told = [d * prime ** e for d in told for e in range(power + 1)]
    return sorted(told)


def product_of(primes):
    told = 1
    for prime, power in primes.items():
        told *= prime ** power
    return told


def turn_of_lengths(lengths, seed):
    """A rearrangement with rounds of these lengths, its things dealt out by seed."""
    things = list(range(sum(lengths)))
    random.Random(seed).shuffle(things)
    told = [None] * len(things)
    begin = 0
    for length in lengths:
        ring = things[begin:begin + length]
        for place, thing in enumerate(ring):
            told[thing] = ring[(place + 1) % length]
        begin += length
    return told


LENGTHS = [
    [], [1], [2], [1, 1], [3], [2, 1], [1, 1, 1], [4], [2, 2], [5], [3, 2], [6], [3, 3], [2, 2, 2],
    [4, 4, 2, 2, 1], [6, 6, 3, 3, 3], [7, 5, 3, 2, 1], [4] * 5, [2] * 20, [1] * 40, [40], [20, 20],
    [10] * 4, [8] * 5, [5] * 8, [3] * 13 + [1], [13, 11, 7, 5, 4], [12, 12, 6, 6, 2, 2], [39, 1], [39],
    [9, 9, 9, 4, 4, 4], [6] * 6, [4] * 4 + [2] * 6 + [1] * 8, [2] * 9 + [3] * 6, [16, 8, 4, 4, 2, 2, 1],
]


def many_turns():
    told = [turn_of_lengths(lengths, 100 + at) for at, lengths in enumerate(LENGTHS)]
    dealer = random.Random(7)
    for n in range(41):
        p = list(range(n))
        dealer.shuffle(p)
        told.append(p)
    return told


SMALL_NUMBERS = list(range(1, 31)) + [36, 48, 60, 64, 72, 81, 97, 120, 128, 210, 360]
GREAT_PRIMES = [
    {2: 30, 3: 20, 5: 10},
    {2: 12, 3: 6, 5: 4, 7: 3, 11: 2, 13: 2},
    {2: 99},
    {3: 62},
    {2: 1, 3: 1, 5: 1, 7: 1, 11: 1, 13: 1, 17: 1, 19: 1, 23: 1, 29: 1},
    {2 ** 89 - 1: 1},
    {2: 2, 2 ** 89 - 1: 1},
    {999999937: 3},
]
GREAT_NUMBERS = [product_of(primes) for primes in GREAT_PRIMES] + [10 ** 29, 10 ** 30 - 1, 123456789012345678901234567890]


def holds_itself():
    told = []
    told.append(told)
    return told


class Odd:
    """What no one may compare, measure, walk or look up."""

    __hash__ = None

    def refuse(self, *rest):
        raise RuntimeError("touched")

    __eq__ = __lt__ = __gt__ = __le__ = __ge__ = __len__ = __iter__ = __bool__ = __repr__ = __str__ = refuse
    __index__ = __int__ = __contains__ = __getitem__ = refuse


def no_turns():
    return [
        None, True, False, 0, 1, -1, 10 ** 40, "", "0", "01", "(0)", b"", (), (0,), (0, 1), (1, 0), {}, {0: 0},
        {0: 1, 1: 0}, set(), {0}, frozenset([0, 1]), range(3), iter([0]), object(), Odd(), len, list, int,
        [0, 0], [1, 1], [1], [1, 2], [0, 2], [2, 0], [1, 2, 3], [0, 1, 3], [0, 1, 1], [-1], [-1, 0], [0, -1],
        [0, 1, -1], [True], [False], [True, False], [False, True], [0, True], [False, 1], [1, False], [True, 0],
        ["0"], ["a"], [""], [None], [0, None], [[0]], [[]], [[0], [1]], [[0, 1]], [(0,)], [()], [{}], [0, [1]],
        [0, {}], [set()], [Odd()], [0, Odd()], [10 ** 30], [0, 10 ** 30], [-10 ** 30], [0, 10 ** 5000],
        list(range(1, 41)), list(range(41)), list(range(40, -1, -1)), list(range(40)) + [39], list(range(39)) + [0],
        list(range(1000)), list(range(3000)), list(range(100000)), [0] * 3000, holds_itself(), [0, holds_itself()],
    ]
