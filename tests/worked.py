"""Answers worked out by the document's own words, and inputs that several tests share."""

import functools
import itertools
import random
from math import factorial, gcd, lcm


def all_turns(n):
    return [list(p) for p in itertools.permutations(range(n))]


def behind(p, q):
    return [p[q[i]] for i in range(len(p))]


def back(p):
    told = [None] * len(p)
    for i in range(len(p)):
        told[p[i]] = i
    return told


def leaves_all(n):
    return list(range(n))


def power_step_by_step(p, k):
    base = p if k >= 0 else back(p)
    told = leaves_all(len(p))
    for _ in range(abs(k)):
        told = behind(base, told)
    return told


def power_by_doubling(p, k):
    base = list(p) if k >= 0 else back(p)
    told = leaves_all(len(p))
    left = abs(k)
    while left:
        if left % 2:
            told = behind(base, told)
        base = behind(base, base)
        left //= 2
    return told


def round_from(p, i):
    told = [i]
    while p[told[-1]] != i:
        told.append(p[told[-1]])
    return told


def rounds(p):
    told = []
    for i in range(len(p)):
        walked = round_from(p, i)
        if min(walked) == i:
            told.append(walked)
    return told


def many_by_length(p):
    many = {}
    for walked in rounds(p):
        many[len(walked)] = many.get(len(walked), 0) + 1
    return many


def right_numbers(l, m, tried):
    return [d for d in tried if gcd(d * l, m) == d]


def parts_of(primes):
    """All numbers that part the product of primes, each prime to its power."""
    told = [1]
    for prime, power in primes.items():
        told = [d * prime ** e for d in told for e in range(power + 1)]
    return sorted(told)


def product_of(primes):
    told = 1
    for prime, power in primes.items():
        told *= prime ** power
    return told


def home(p):
    return lcm(*[len(walked) for walked in rounds(p)])


def renamed(p, s):
    """p with its things named anew: s behind p behind the way back of s."""
    return behind(s, behind(p, back(s)))


def roots_by_going_through(turns, m):
    """Of each rearrangement that is an m-th power, its m-th roots, in the order of turns."""
    told = {}
    for r in turns:
        told.setdefault(tuple(power_by_doubling(r, m)), []).append(r)
    return told


def partings(c, right):
    """All ways to part c into right numbers, these rising: dicts of how often each one is taken."""
    if c == 0:
        return [{}]
    if not right:
        return []
    d = right[-1]
    told = []
    for k in range(c // d + 1):
        for others in partings(c - k * d, right[:-1]):
            told.append({d: k, **others} if k else others)
    return told


def ways_of_parting(c, l, taken):
    """[12]: c! over d! to the power k and k!, times (d - 1)! times l to the power d - 1 for each part d."""
    under = times = 1
    for d, k in taken.items():
        under *= factorial(d) ** k * factorial(k)
        times *= (factorial(d - 1) * l ** (d - 1)) ** k
    return factorial(c) // under * times


@functools.lru_cache(maxsize=None)
def ways_of_all_partings(c, l, right):
    return sum(ways_of_parting(c, l, taken) for taken in partings(c, right))


def roots_counted(p, m):
    told = 1
    for l, c in many_by_length(p).items():
        told *= ways_of_all_partings(c, l, tuple(right_numbers(l, m, range(1, c + 1))))
    return told


def soonest_home(p, m):
    """The least home of all roots, by all ways to part the rounds; None where there is no root."""
    homes = {1}
    for l, c in many_by_length(p).items():
        lengths = [lcm(*[d * l for d in taken]) for taken in partings(c, right_numbers(l, m, range(1, c + 1)))]
        homes = {lcm(one, other) for one in homes for other in lengths}
    return min(homes, default=None)


def past_counted(p):
    told = 1
    for l, c in many_by_length(p).items():
        told *= l ** c * factorial(c)
    return told


def turn_of_lengths(lengths, seed):
    """A rearrangement with rounds of these lengths, its things dealt out by seed."""
    things = list(range(sum(lengths)))
    random.Random(seed).shuffle(things)
    told = [None] * len(things)
    begin = 0
    for length in lengths:
        ring = things[begin:begin + length]
        for place, thing in enumerate(ring):
            told[thing] = ring[(place + 1) % length]
        begin += length
    return told


LENGTHS = [
    [], [1], [2], [1, 1], [3], [2, 1], [1, 1, 1], [4], [2, 2], [5], [3, 2], [6], [3, 3], [2, 2, 2],
    [4, 4, 2, 2, 1], [6, 6, 3, 3, 3], [7, 5, 3, 2, 1], [4] * 5, [2] * 20, [1] * 40, [40], [20, 20],
    [10] * 4, [8] * 5, [5] * 8, [3] * 13 + [1], [13, 11, 7, 5, 4], [12, 12, 6, 6, 2, 2], [39, 1], [39],
    [9, 9, 9, 4, 4, 4], [6] * 6, [4] * 4 + [2] * 6 + [1] * 8, [2] * 9 + [3] * 6, [16, 8, 4, 4, 2, 2, 1],
]


def many_turns():
    told = [turn_of_lengths(lengths, 100 + at) for at, lengths in enumerate(LENGTHS)]
    dealer = random.Random(7)
    for n in range(41):
        p = list(range(n))
        dealer.shuffle(p)
        told.append(p)
    return told


# Lengths of rounds and m, with how many m-th roots there are: just two thousand, and the nearest above it.
# Of at most forty things none has just 2001 roots, nor do just 2001 go past any: 2001 is 3 times 23 times 29, and
# of the counts of roots for rounds of one length only 3 parts it; three lengths 3, 23, 29 are too many things.
TWO_THOUSAND_ROOTS = [
    ([1] * 5 + [3] * 3 + [4] * 2, 10), ([1] * 5 + [3] * 2 + [9] * 2, 10), ([1] * 5 + [4] * 2 + [9] * 2, 50),
    ([1] * 4 + [2] * 2 + [3] * 3 + [9] * 2, 2), ([1] * 4 + [2] * 2 + [3] * 3 + [10] * 2, 14),
]
MORE_ROOTS = [
    ([1] * 4 + [5] * 2 + [13] * 2, 12, 2016), ([1] * 2 + [3] * 4 + [7] * 3, 2, 2024),
    ([1] * 40, 2, None), ([2] * 20, 4, None), ([1] * 40, 5342931457063200, None),
]
TWO_THOUSAND_PAST = [[4, 5, 5, 10], [1, 1, 5, 10, 10], [2, 5, 5, 20], [1, 1, 2, 2, 5, 25], [1, 1, 5, 8, 25]]
MORE_PAST = [([1, 1, 7, 11, 13], 2002), ([11, 13, 14], 2002), ([2, 2, 2, 1, 1, 1, 7], 2016), ([1] * 7, 5040), ([1] * 40, None)]

SMALL_NUMBERS = list(range(1, 31)) + [36, 48, 60, 64, 72, 81, 97, 120, 128, 210, 360]
GREAT_PRIMES = [
    {2: 30, 3: 20, 5: 10},
    {2: 12, 3: 6, 5: 4, 7: 3, 11: 2, 13: 2},
    {2: 99},
    {3: 62},
    {2: 1, 3: 1, 5: 1, 7: 1, 11: 1, 13: 1, 17: 1, 19: 1, 23: 1, 29: 1},
    {2 ** 89 - 1: 1},
    {2: 2, 2 ** 89 - 1: 1},
    {999999937: 3},
]
GREAT_NUMBERS = [product_of(primes) for primes in GREAT_PRIMES] + [10 ** 29, 10 ** 30 - 1, 123456789012345678901234567890]


def holds_itself():
    told = []
    told.append(told)
    return told


class Odd:
    """What no one may compare, measure, walk or look up."""

    __hash__ = None

    def refuse(self, *rest):
        raise RuntimeError("touched")

    __eq__ = __lt__ = __gt__ = __le__ = __ge__ = __len__ = __iter__ = __bool__ = __repr__ = __str__ = refuse
    __index__ = __int__ = __contains__ = __getitem__ = refuse


def no_turns():
    return [
        None, True, False, 0, 1, -1, 10 ** 40, "", "0", "01", "(0)", b"", (), (0,), (0, 1), (1, 0), {}, {0: 0},
        {0: 1, 1: 0}, set(), {0}, frozenset([0, 1]), range(3), iter([0]), object(), Odd(), len, list, int,
        [0, 0], [1, 1], [1], [1, 2], [0, 2], [2, 0], [1, 2, 3], [0, 1, 3], [0, 1, 1], [-1], [-1, 0], [0, -1],
        [0, 1, -1], [True], [False], [True, False], [False, True], [0, True], [False, 1], [1, False], [True, 0],
        ["0"], ["a"], [""], [None], [0, None], [[0]], [[]], [[0], [1]], [[0, 1]], [(0,)], [()], [{}], [0, [1]],
        [0, {}], [set()], [Odd()], [0, Odd()], [10 ** 30], [0, 10 ** 30], [-10 ** 30], [0, 10 ** 5000],
        list(range(1, 41)), list(range(41)), list(range(40, -1, -1)), list(range(40)) + [39], list(range(39)) + [0],
        list(range(1000)), list(range(3000)), list(range(100000)), [0] * 3000, holds_itself(), [0, holds_itself()],
    ]


SIGNS = [chr(code) for code in range(32, 127)] + ["\t", "\n", "\r"]
FORTY_ALONE = "".join("(" + str(i) + ")" for i in range(40))
FORTY_ROUND = "(" + " ".join(str(i) for i in range(40)) + ")"
FORTY_ONE_ALONE = FORTY_ALONE + "(40)"
FORTY_ONE_ROUND = "(" + " ".join(str(i) for i in range(41)) + ")"

NO_WRITINGS = [
    # Nothing, and brackets out of place.
    "", "(", ")", ")(", "((", "))", "(()", "())", "(())", "()()", "0", "0 1", "(0", "0)", ")0(", "((0))", "(0))",
    "((0)",
    "(0)(", "(0))(", "(0)(1", "(0)1)", "(0 1)(2", "0)(1)", "(0)1", "0(1)", "(0(1))", "[0]", "{0}", "<0>", "[0, 1]",
    "(0]",
    # A blank more or less.
    " ", "( )", " ()", "() ", "( 0)", "(0 )", " (0)", "(0) ", "(0  1)", "(0 1) (2)", "(0 1 )(2)", "(0 1)( 2)",
    "(0) (1)",
    "(01)", "(0 12)", "(01 2)", "(0 3)(1)(24)", "(0 3)(1)(2  4)", "(0 3) (1) (2 4)", "(0 3)(1)(2 4) ", " (0 3)(1)(2 4)",
    # Other signs between, tabs and line ends.
    "(0,1)", "(0, 1)", "(0;1)", "(0\t1)", "(0\n1)", "(0 1)\n", "\n(0 1)", "(0 1)\r\n", "(0)\n(1)", "(0)\t(1)", "\t(0)",
    "()\n",
    "(\n)", "()\t", "\n", "\t", "(0\n 1)", "(0 \n1)", "(0 1\n)", "(\n0 1)", "(0\r1)", "(0\x0b1)", "(0\x001)", "(0)\x00",
    # Noughts and signs ahead of a number, and what is no number.
    "(00)", "(00 1)", "(0 01)", "(0 1)(02)", "(-0)", "(+0)", "(0 +1)", "(0 -1)", "(-1)", "(-1 0)", "(0 1.0)", "(0 1e0)",
    "(0x0)",
    "(0 1_0)", "(a)", "(0 a)", "(zero)", "(None)", "(0 ~)", "(~)", "(!)", "(0 1)!", "!(0 1)", "turn", "(0 1)(2)x",
    "none", "ok",
    # Figures of other scripts.
    "(\u0660)", "(\u0660 \u0661)", "(0 \u00b9)", "(\u00b2)", "(\uff10)", "(0\u00a01)", "(0\u30001)", "\ufeff(0)",
    "(0)\u2028", "\ud800",
    # A round not begun at its least thing.
    "(1 0)", "(1 2 0)", "(2 0 1)", "(3 0)(1)(2 4)", "(0 3)(1)(4 2)", "(0)(2 1)", "(2 1 0)", "(0)(3 1 2)",
    # Rounds out of order.
    "(1)(0)", "(1 2)(0)", "(2)(0 1)", "(0)(2)(1)", "(1)(0 3)(2 4)", "(2 4)(0 3)(1)", "(0 3)(2 4)(1)", "(0)(3)(1 2)",
    # A thing twice or lacking.
    "(0 0)", "(0)(0)", "(0 1)(1)", "(0 1)(0)", "(0 1 0)", "(0 1 1)", "(0 1)(0 1)", "(0)(1)(1)", "(1)", "(0 2)",
    "(0)(2)",
    "(1 2)", "(0 1)(3)", "(0 3)(1)(2 5)", "(0 3)(2 4)", "(39)", "(40)", "(0 40)", "(1)(2)", "(0 1 2)(4)",
    # An empty round beside others.
    "()(0)", "(0)()", "(0)()(1)", "(0 1)()", "()(0 1)", "(0)(1)()()", "()(0)()", "()()()",
    # More than forty things.
    FORTY_ONE_ALONE, FORTY_ONE_ROUND, FORTY_ALONE + "(41)", FORTY_ROUND + "(40)", FORTY_ROUND[:-1] + " 40)",
    "".join("(" + str(i) + ")" for i in range(400)), "(" + " ".join(str(i) for i in range(500)) + ")",
    # Long texts.
    "(" * 2000, ")" * 2000, "()" * 1000, "(0)" * 666, " " * 2000, "0" * 2000, "(" + "0" * 1998 + ")",
    "(" + "9" * 1998 + ")",
    "(" + "0 " * 998 + "0)", "(" + "1" * 5000 + ")", "(0 " + "9" * 10000 + ")", FORTY_ALONE * 10, "x" * 2000,
    "\n" * 2000,
]


def no_texts():
    return [
        None, True, False, 0, 1, -1, 10 ** 40, b"", b"()", b"(0)", bytearray(b"(0)"), [], ["(0)"], ["(", "0", ")"], [0],
        [1, 0],
        (), ("(0)",), (0,), {}, {"(0)": 0}, set(), {"(0)"}, frozenset(["()"]), object(), Odd(), str, len, range(1),
        iter("()"), holds_itself(), [Odd()],
    ]


def written(p):
    told = ""
    for ring in rounds(p):
        told += "(" + str(ring[0])
        for thing in ring[1:]:
            told += " " + str(thing)
        told += ")"
    return told or "()"
