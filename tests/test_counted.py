"""[19] and [20]: kinds of n things, and how many rearrangements are of a kind, have a root, are home at m."""

import unittest
from collections import Counter
from math import factorial, prod

import worked
from turnroots.allroots import all_roots, how_many_roots
from turnroots.counted import how_many_have, how_many_home, how_many_of, kinds_of
from turnroots.errors import NoKind, NoNumber, TooMany
from turnroots.hasroot import root_told
from turnroots.past import how_many_past
from turnroots.rounds import kind_of

BELOW_ONE = [0, -1, -2, -6, -10 ** 29, -10 ** 30 + 1]
BELOW_NOUGHT = [-1, -2, -12, -13, -10 ** 29, -10 ** 30 + 1]
ABOVE_TWELVE = [13, 14, 24, 40, 41, 1000, 10 ** 29, 10 ** 30 - 1]
# Ways to write n as a sum of numbers from 1 on, for n from 0 to 12.
MANY_KINDS = [1, 1, 2, 3, 5, 7, 11, 15, 22, 30, 42, 56, 77]
FORTY = [
    [40], [39, 1], [20, 20], [1] * 40, [2] * 20, [38, 1, 1], [10] * 4, [3] * 13 + [1], [13, 11, 7, 5, 4], [8] * 5,
    [9, 8, 7, 6, 4, 3, 2, 1], [21, 19], [4] * 4 + [2] * 6 + [1] * 12, [5] * 8, [12, 12, 6, 6, 2, 2],
]
NO_KINDS = [
    # Rising, at the beginning, in the middle, at the end.
    [1, 2], [2, 1, 2], [1, 2, 1], [3, 3, 4], [1, 1, 1, 2], [39, 40], [1, 39], [5, 4, 3, 2, 1, 2], list(range(1, 9)),
    # With 0, alone and beside others.
    [0], [0, 0], [1, 0], [0, 1], [3, 2, 0], [40, 0], [2, 0, 1], [0] * 3000,
    # With numbers below 0, also such as add up to something right.
    [-1], [1, -1], [-1, 1], [2, -1], [41, -1], [3, 1, -2], [-1, -1], [-10 ** 29], [10 ** 29, -10 ** 29], [-1, -2],
    # Of more than forty things in all.
    [41], [40, 1], [39, 2], [21, 20], [1] * 41, [2] * 21, [2] * 20 + [1], [20, 20, 1], [13, 11, 7, 5, 4, 1], [42], [80],
    [1] * 3000, [3000], [10 ** 30 - 1], [10 ** 30 - 1] * 3000, [40] * 40, list(range(40, 0, -1)), list(range(40)),
]


def kind_by_rounds(p):
    return sorted([len(ring) for ring in worked.rounds(p)], reverse=True)


def one_of(kind):
    return worked.turn_of_lengths(kind, 17)


def of_kind_by_formula(kind):
    """n! over the product, over lengths l of c rounds, of l to the power c times c!."""
    under = [l ** c * factorial(c) for l, c in Counter(kind).items()]
    return factorial(sum(kind)) // prod(under)


class TestKindsOf(unittest.TestCase):
    def test_through_all_rearrangements(self):
        for n in range(8):
            self.assertEqual(kinds_of(n), sorted(map(list, {tuple(kind_by_rounds(p)) for p in worked.all_turns(n)})), n)

    def test_by_hand(self):
        self.assertEqual(kinds_of(0), [[]])
        self.assertEqual(kinds_of(1), [[1]])
        self.assertEqual(kinds_of(2), [[1, 1], [2]])
        self.assertEqual(kinds_of(3), [[1, 1, 1], [2, 1], [3]])
        self.assertEqual(kinds_of(4), [[1, 1, 1, 1], [2, 1, 1], [2, 2], [3, 1], [4]])

    def test_falling_adding_up_sorted_each_once(self):
        for n in range(13):
            told = kinds_of(n)
            self.assertIs(type(told), list)
            self.assertEqual(len(told), MANY_KINDS[n])
            self.assertEqual(len({tuple(kind) for kind in told}), MANY_KINDS[n])
            self.assertEqual(told, sorted(told))
            for kind in told:
                self.assertIs(type(kind), list)
                self.assertTrue(all(type(length) is int and length >= 1 for length in kind))
                self.assertEqual(kind, sorted(kind, reverse=True))
                self.assertEqual(sum(kind), n)

    def test_twelve_and_thirteen(self):
        self.assertEqual(kinds_of(12)[0], [1] * 12)
        self.assertEqual(kinds_of(12)[-1], [12])
        for n in ABOVE_TWELVE:
            with self.assertRaises(TooMany):
                kinds_of(n)

    def test_below_nought(self):
        for n in BELOW_NOUGHT:
            with self.assertRaises(NoNumber):
                kinds_of(n)


class TestHowManyOf(unittest.TestCase):
    def test_through_all_rearrangements(self):
        for n in range(8):
            through = Counter(tuple(kind_by_rounds(p)) for p in worked.all_turns(n))
            for kind, many in through.items():
                self.assertEqual(how_many_of(list(kind)), many, kind)

    def test_by_hand(self):
        self.assertEqual(how_many_of([]), 1)
        self.assertEqual(how_many_of([1]), 1)
        self.assertEqual(how_many_of([2, 1]), 3)
        self.assertEqual(how_many_of([3]), 2)
        self.assertEqual(how_many_of([2, 2]), 3)
        self.assertEqual(how_many_of([2, 2, 1]), 15)

    def test_they_add_up(self):
        for n in range(13):
            self.assertEqual(sum(how_many_of(kind) for kind in kinds_of(n)), factorial(n))

    def test_forty_things(self):
        self.assertEqual(how_many_of([40]), factorial(39))
        self.assertEqual(how_many_of([1] * 40), 1)
        self.assertEqual(how_many_of([2] * 20), prod(range(1, 40, 2)))
        self.assertEqual(how_many_of([20, 20]), factorial(40) // 800)
        for kind in FORTY:
            self.assertEqual(sum(kind), 40)
            told = how_many_of(kind)
            self.assertIs(type(told), int)
            self.assertEqual(told, of_kind_by_formula(kind), kind)

    def test_above_twelve_things(self):
        for lengths in worked.LENGTHS:
            kind = sorted(lengths, reverse=True)
            self.assertEqual(how_many_of(kind), of_kind_by_formula(kind), kind)
        for n in range(41):
            self.assertEqual(how_many_of([n] if n else []), factorial(max(n - 1, 0)))
            self.assertEqual(how_many_of([1] * n), 1)

    def test_one_number_with_what_goes_past(self):
        # [16]: there are as many that name p's things anew to q as go past p, for each q of the kind.
        for p in worked.many_turns():
            self.assertEqual(how_many_of(kind_of(p)) * how_many_past(p), factorial(len(p)))

    def test_no_kind(self):
        for kind in NO_KINDS:
            with self.subTest(kind=str(kind)[:60]):
                with self.assertRaises(NoKind):
                    how_many_of(kind)

    def test_each_list_of_few_small_numbers(self):
        for one in range(-1, 42):
            for other in range(-1, 42):
                for kind in ([one, other], [one, other, 1]):
                    falling = all(kind[at] >= kind[at + 1] for at in range(len(kind) - 1))
                    if min(kind) >= 1 and falling and sum(kind) <= 40:
                        self.assertEqual(how_many_of(kind), of_kind_by_formula(kind))
                    else:
                        with self.assertRaises(NoKind):
                            how_many_of(kind)


class TestHowManyHave(unittest.TestCase):
    def test_through_all_rearrangements(self):
        for n in range(7):
            turns = worked.all_turns(n)
            for m in list(range(1, 31)) + [60, 720] + worked.GREAT_NUMBERS:
                have = {tuple(worked.power_by_doubling(r, m)) for r in turns}
                told = how_many_have(n, m)
                self.assertIs(type(told), int)
                self.assertEqual(told, len(have), (n, m))

    def test_one_number_with_root_told_and_how_many_roots(self):
        for n in range(13):
            for m in list(range(1, 31)) + worked.GREAT_NUMBERS:
                kinds = [kind for kind in kinds_of(n) if how_many_roots(one_of(kind), m) > 0]
                self.assertEqual(how_many_have(n, m), sum(of_kind_by_formula(kind) for kind in kinds), (n, m))
                self.assertEqual(kinds, [kind for kind in kinds_of(n) if root_told(one_of(kind), m)[0] == "root"])

    def test_by_hand(self):
        self.assertEqual([how_many_have(0, m) for m in (1, 2, 3, 10 ** 29)], [1, 1, 1, 1])
        self.assertEqual([how_many_have(1, m) for m in (1, 2, 3, 10 ** 29)], [1, 1, 1, 1])
        self.assertEqual([how_many_have(2, m) for m in (1, 2, 3)], [2, 1, 2])
        self.assertEqual([how_many_have(3, m) for m in (1, 2, 3, 6)], [6, 3, 4, 1])
        self.assertEqual(how_many_have(4, 2), 12)

    def test_known_rows(self):
        # How many of n things are done twice from something: known numbers, through twelve things.
        self.assertEqual(
            [how_many_have(n, 2) for n in range(13)],
            [1, 1, 1, 3, 12, 60, 270, 1890, 14280, 128520, 1096200, 12058200, 139043520],
        )

    def test_all_and_few(self):
        for n in range(13):
            self.assertEqual(how_many_have(n, 1), factorial(n))
            # What parts nothing that is a length of theirs bars none.
            self.assertEqual(how_many_have(n, 13), factorial(n))
            self.assertEqual(how_many_have(n, 10 ** 29 + 319), factorial(n))


class TestHowManyHome(unittest.TestCase):
    def test_through_all_rearrangements(self):
        for n in range(7):
            homes = Counter(worked.home(p) for p in worked.all_turns(n))
            for m in list(range(1, 31)) + [60, 720] + worked.GREAT_NUMBERS:
                told = how_many_home(n, m)
                self.assertIs(type(told), int)
                self.assertEqual(told, sum(many for home, many in homes.items() if m % home == 0), (n, m))

    def test_by_kinds(self):
        for n in range(13):
            for m in list(range(1, 31)) + [60, 27720] + worked.GREAT_NUMBERS:
                kinds = [kind for kind in kinds_of(n) if all(m % length == 0 for length in kind)]
                self.assertEqual(how_many_home(n, m), sum(of_kind_by_formula(kind) for kind in kinds), (n, m))

    def test_one_number_with_the_roots_of_what_leaves_all(self):
        for n in range(13):
            for m in list(range(1, 31)) + worked.GREAT_NUMBERS:
                leaves = list(range(n))
                self.assertEqual(how_many_home(n, m), how_many_roots(leaves, m))
                if how_many_roots(leaves, m) <= 100:
                    self.assertEqual(how_many_home(n, m), len(all_roots(leaves, m)))

    def test_by_hand(self):
        self.assertEqual([how_many_home(n, 1) for n in range(13)], [1] * 13)
        self.assertEqual([how_many_home(n, 2) for n in range(8)], [1, 1, 2, 4, 10, 26, 76, 232])
        self.assertEqual([how_many_home(3, m) for m in (1, 2, 3, 4, 5, 6)], [1, 4, 3, 4, 1, 6])
        for n in range(13):
            self.assertEqual(how_many_home(n, 27720), factorial(n))


class TestRefusedNumbers(unittest.TestCase):
    ASKED = (how_many_have, how_many_home)

    def test_above_twelve(self):
        for asked in self.ASKED:
            self.assertGreater(asked(12, 2), 0)
            for n in ABOVE_TWELVE:
                for m in (1, 2, 13, 10 ** 29):
                    with self.assertRaises(TooMany):
                        asked(n, m)

    def test_below_nought(self):
        for asked in self.ASKED:
            self.assertEqual(asked(0, 2), 1)
            for n in BELOW_NOUGHT:
                for m in (1, 2, 13, 10 ** 29) + tuple(BELOW_ONE):
                    with self.assertRaises(NoNumber):
                        asked(n, m)

    def test_m_below_one(self):
        for asked in self.ASKED:
            for n in range(13):
                self.assertGreater(asked(n, 1), 0)
                for m in BELOW_ONE:
                    with self.assertRaises(NoNumber):
                        asked(n, m)

    def test_n_goes_first(self):
        for asked in self.ASKED:
            for n in ABOVE_TWELVE:
                for m in BELOW_ONE:
                    with self.assertRaises(TooMany):
                        asked(n, m)


class TestTogether(unittest.TestCase):
    def test_one_by_one(self):
        # [20], through each rearrangement of n things.
        for n in range(7):
            turns = worked.all_turns(n)
            for m in range(1, 31):
                self.assertEqual(sum(how_many_roots(p, m) for p in turns), factorial(n), (n, m))

    def test_by_kinds(self):
        # All of one kind have as many roots: so the counts of the kinds and of the roots come to one number.
        for n in range(13):
            for m in list(range(1, 31)) + worked.GREAT_NUMBERS:
                together = [how_many_of(kind) * how_many_roots(one_of(kind), m) for kind in kinds_of(n)]
                self.assertEqual(sum(together), factorial(n), (n, m))

    def test_told_roots(self):
        for n in range(5):
            for m in range(1, 31):
                self.assertEqual(sum(len(all_roots(p, m)) for p in worked.all_turns(n)), factorial(n), (n, m))


if __name__ == "__main__":
    unittest.main()
