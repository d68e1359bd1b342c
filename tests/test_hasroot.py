"""[10] and [11], and [4] as far as it speaks of them: right numbers, a root or what bars it."""

import unittest
from math import gcd

import worked
from turnroots.errors import NoNumber, NoTurn
from turnroots.hasroot import least_right, root_told

BELOW_ONE = [0, -1, -2, -6, -10 ** 29]


def first_bar(p, m, least):
    """The least length that bars, with least telling the least right number of a length."""
    for l, many in sorted(worked.many_by_length(p).items()):
        if many % least(l) != 0:
            return ("bars", l, many, least(l))
    return None


class TestLeastRight(unittest.TestCase):
    def test_the_document_s_own(self):
        self.assertEqual(worked.right_numbers(4, 6, range(1, 100)), [2, 6])
        self.assertEqual(least_right(4, 6), 2)

    def test_by_trying(self):
        for l in range(1, 61):
            for m in range(1, 121):
                right = worked.right_numbers(l, m, range(1, m + 1))
                self.assertEqual(least_right(l, m), min(right), (l, m))
                self.assertTrue(all(d % least_right(l, m) == 0 for d in right))

    def test_one(self):
        for number in worked.SMALL_NUMBERS + worked.GREAT_NUMBERS:
            self.assertEqual(least_right(1, number), 1)
            self.assertEqual(least_right(number, 1), 1)
            self.assertEqual(least_right(number, number), number)

    def test_great_numbers(self):
        for primes in worked.GREAT_PRIMES:
            m = worked.product_of(primes)
            parts = worked.parts_of(primes)
            for l in list(range(1, 41)) + [2 ** 61 - 1, 2 ** 89 - 1, 10 ** 29, 6 ** 30, 999999937 ** 2]:
                # A right number parts m, so no other one need be tried.
                right = worked.right_numbers(l, m, parts)
                told = least_right(l, m)
                self.assertEqual(told, right[0], (l, m))
                self.assertIs(type(told), int)

    def test_below_one(self):
        for wrong in BELOW_ONE:
            for other in (1, 2, 10 ** 29, 0, -3):
                with self.assertRaises(NoNumber):
                    least_right(wrong, other)
                with self.assertRaises(NoNumber):
                    least_right(other, wrong)


class TestRootTold(unittest.TestCase):
    def check_told(self, p, m, has, least):
        told = root_told(p, m)
        self.assertIs(type(told), tuple)
        if has:
            self.assertEqual(len(told), 2)
            self.assertEqual(told[0], "root")
            self.assertIs(type(told[1]), list)
            self.assertEqual(sorted(told[1]), list(range(len(p))))
            self.assertEqual(worked.power_by_doubling(told[1], m), p, (p, m))
        else:
            self.assertEqual(told, first_bar(p, m, least), (p, m))

    def test_through_all_rearrangements(self):
        for n in range(7):
            turns = worked.all_turns(n)
            for m in list(range(1, 13)) + [30, 60]:
                have = {tuple(worked.power_by_doubling(r, m)) for r in turns}
                least = {l: min(worked.right_numbers(l, m, range(1, m + 1))) for l in range(1, n + 1)}
                for p in turns:
                    self.check_told(p, m, tuple(p) in have, least.get)

    def test_through_all_rearrangements_far(self):
        turns = worked.all_turns(5)
        for primes in worked.GREAT_PRIMES:
            m = worked.product_of(primes)
            have = {tuple(worked.power_by_doubling(r, m)) for r in turns}
            least = {l: worked.right_numbers(l, m, worked.parts_of(primes))[0] for l in range(1, 6)}
            for p in turns:
                self.check_told(p, m, tuple(p) in have, least.get)

    def test_many_things(self):
        for m in worked.SMALL_NUMBERS:
            least = {l: min(worked.right_numbers(l, m, range(1, m + 1))) for l in range(1, 41)}
            for p in worked.many_turns():
                self.check_told(p, m, first_bar(p, m, least.get) is None, least.get)

    def test_many_things_far(self):
        for primes in worked.GREAT_PRIMES:
            m = worked.product_of(primes)
            least = {l: worked.right_numbers(l, m, worked.parts_of(primes))[0] for l in range(1, 41)}
            for p in worked.many_turns():
                self.check_told(p, m, first_bar(p, m, least.get) is None, least.get)

    def test_powers_have_roots(self):
        for r in worked.many_turns():
            for m in worked.SMALL_NUMBERS + worked.GREAT_NUMBERS:
                p = worked.power_by_doubling(r, m)
                self.check_told(p, m, True, None)

    def test_m_one(self):
        for p in worked.many_turns():
            self.assertEqual(root_told(p, 1), ("root", p))

    def test_no_things_and_one(self):
        for m in worked.SMALL_NUMBERS + worked.GREAT_NUMBERS:
            self.assertEqual(root_told([], m), ("root", []))
            self.assertEqual(root_told([0], m), ("root", [0]))

    def test_the_least_that_bars(self):
        self.assertEqual(root_told([1, 0], 2), ("bars", 2, 1, 2))
        self.assertEqual(root_told(worked.turn_of_lengths([4, 2], 1), 2), ("bars", 2, 1, 2))
        self.assertEqual(root_told(worked.turn_of_lengths([4, 2, 2], 1), 2), ("bars", 4, 1, 2))
        self.assertEqual(root_told(worked.turn_of_lengths([6] * 3 + [2] * 3, 1), 12), ("bars", 2, 3, 4))
        self.assertEqual(root_told(worked.turn_of_lengths([6] * 3 + [2] * 4, 1), 12), ("bars", 6, 3, 12))
        self.assertEqual(root_told(worked.turn_of_lengths([40], 1), 10 ** 29), ("bars", 40, 1, 10 ** 29))

    def test_l_four_m_six(self):
        self.assertEqual(root_told(worked.turn_of_lengths([4], 1), 6), ("bars", 4, 1, 2))
        self.assertEqual(root_told(worked.turn_of_lengths([4] * 3, 1), 6), ("bars", 4, 3, 2))
        for many in (2, 4, 6, 8, 10):
            p = worked.turn_of_lengths([4] * many, many)
            self.check_told(p, 6, True, None)

    def test_where_d_is_right(self):
        # [10]: a round of d times l falls under m into d rounds of l just where d is right.
        for l in range(1, 9):
            for d in range(1, 6):
                r = worked.turn_of_lengths([d * l], 5)
                for m in range(1, 31):
                    kind = sorted(len(ring) for ring in worked.rounds(worked.power_by_doubling(r, m)))
                    self.assertEqual(kind == [l] * d, gcd(d * l, m) == d)

    def test_below_one(self):
        for m in BELOW_ONE:
            for p in ([], [0], [1, 0], list(range(40)), worked.turn_of_lengths([4, 2], 1)):
                with self.assertRaises(NoNumber):
                    root_told(p, m)

    def test_no_turn_goes_first(self):
        for thing in worked.no_turns():
            for m in (1, 2, 10 ** 29, 0, -1):
                with self.assertRaises(NoTurn):
                    root_told(thing, m)


if __name__ == "__main__":
    unittest.main()
