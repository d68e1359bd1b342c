"""[12], [13] and [20], and [4] as far as it speaks of them: roots counted, told, numbered."""

import unittest
from math import factorial, lcm

import worked
from turnroots.allroots import all_roots, how_many_roots, nth_root, number_of_root
from turnroots.errors import NoFit, NoNumber, NoRoot, NoTurn, TooMany
from turnroots.hasroot import root_told

BELOW_ONE = [0, -1, -2, -6, -10 ** 29]
FEW_NUMBERS = list(range(1, 13)) + [30, 60] + worked.GREAT_NUMBERS
# Lengths of rounds, and m: some with many rounds put together, some where each stays alone, some that bar.
LENGTHS_AND_NUMBERS = [
    ([4, 4], 6), ([4] * 4, 6), ([4] * 6, 5), ([2, 2], 2), ([2] * 4, 2), ([3] * 3, 3), ([6] * 2, 2), ([12] * 3, 3),
    ([20, 20], 2), ([20, 20], 2 * 3 ** 60), ([13, 13, 13], 3), ([1] * 6, 6), ([1] * 6, 720), ([1] * 7, 3),
    ([1] * 8, 2), ([1] * 9, 2), ([5] * 3, 6), ([2] * 3 + [1] * 5, 3), ([2] * 2 + [1] * 5 + [3] * 2, 2),
    ([4] * 2 + [2] * 2 + [1] * 4, 2), ([2] * 4, 4), ([2] * 4, 12), ([3] * 4, 2), ([3] * 3 + [1] * 3, 9),
    ([7, 7, 5, 5, 3, 3, 2, 2], 2), ([1] * 5 + [2] * 2, 10), ([6] * 2 + [10] * 2, 2), ([8, 8, 9, 9], 2), ([40], 3),
    ([39, 1], 10 ** 29 - 9), ([1] * 40, 10 ** 29 + 9), ([2] * 19 + [1, 1], 10 ** 29 + 1), ([10] * 3, 3),
]


def asked_turns():
    return [(worked.turn_of_lengths(lengths, 30 + at), m) for at, (lengths, m) in enumerate(LENGTHS_AND_NUMBERS)]


class TestThroughAllRearrangements(unittest.TestCase):
    def test_counts_and_roots(self):
        for n in range(6):
            turns = worked.all_turns(n)
            for m in FEW_NUMBERS:
                through = worked.roots_by_going_through(turns, m)
                for p in turns:
                    roots = through.get(tuple(p), [])
                    self.assertEqual(how_many_roots(p, m), len(roots), (p, m))
                    self.assertEqual(all_roots(p, m), roots, (p, m))

    def test_six_and_seven_things(self):
        for n, numbers in ((6, [2, 3, 4, 6, 10, 12, 60]), (7, [2, 6, 420])):
            turns = worked.all_turns(n)
            for m in numbers:
                through = worked.roots_by_going_through(turns, m)
                for p in turns[::7]:
                    roots = through.get(tuple(p), [])
                    self.assertEqual(how_many_roots(p, m), len(roots), (p, m))
                    if len(roots) <= 2000:
                        self.assertEqual(all_roots(p, m), roots, (p, m))

    def test_numbers(self):
        for n in range(6):
            turns = worked.all_turns(n)
            for m in (1, 2, 3, 4, 6, 60, 10 ** 29):
                for p, roots in worked.roots_by_going_through(turns, m).items():
                    for k, root in enumerate(roots):
                        self.assertEqual(nth_root(list(p), m, k), root)
                        self.assertEqual(number_of_root(list(p), m, root), k)

    def test_each_that_is_no_root(self):
        for n in range(6):
            turns = worked.all_turns(n)
            for m in (1, 2, 3, 4, 6, 12, 10 ** 29) if n < 5 else (2, 6):
                for p in turns:
                    for r in turns:
                        if worked.power_by_doubling(r, m) != p:
                            with self.assertRaises(NoRoot):
                                number_of_root(p, m, r)

    def test_no_number_beyond(self):
        for n in range(6):
            turns = worked.all_turns(n)
            for m in (1, 2, 3, 4, 6, 12, 10 ** 29):
                through = worked.roots_by_going_through(turns, m)
                for p in turns:
                    many = len(through.get(tuple(p), []))
                    for k in (-many - 1, -many, -2, -1, many, many + 1, 2000, 10 ** 29, -10 ** 29):
                        if not 0 <= k < many:
                            with self.assertRaises(NoNumber):
                                nth_root(p, m, k)

    def test_together_they_are_all(self):
        # [20]: through all rearrangements of n things, how many roots they have together is n!.
        for n in range(7):
            for m in (1, 2, 3, 4, 6, 10, 60, 10 ** 29):
                together = sum(how_many_roots(p, m) for p in worked.all_turns(n))
                self.assertEqual(together, factorial(n), (n, m))


class TestHowManyRoots(unittest.TestCase):
    def test_by_the_document_s_sum(self):
        for m in [1, 2, 3, 4, 6, 8, 10, 12, 30, 60, 210, 720] + worked.GREAT_NUMBERS:
            for p in worked.many_turns():
                told = how_many_roots(p, m)
                self.assertIs(type(told), int)
                self.assertEqual(told, worked.roots_counted(p, m), (p, m))

    def test_by_hand(self):
        # Two rounds of length 4 are put together only as one of 8: in 4 ways.
        self.assertEqual(how_many_roots(worked.turn_of_lengths([4, 4], 1), 6), 4)
        # Six of them: by twos in 15 times 4 to the 3rd ways, or all in one: 5! times 4 to the 5th.
        self.assertEqual(how_many_roots(worked.turn_of_lengths([4] * 6, 5), 6), 15 * 64 + 120 * 1024)
        self.assertEqual(how_many_roots([0, 1, 2, 3], 2), 10)
        self.assertEqual(how_many_roots([1, 0], 2), 0)
        self.assertEqual(how_many_roots([1, 2, 0], 2), 1)

    def test_forty_things(self):
        home = lcm(*range(1, 41))
        self.assertEqual(how_many_roots(list(range(40)), home), factorial(40))
        self.assertEqual(how_many_roots(list(range(40)), home * 41), factorial(40))
        self.assertEqual(how_many_roots([i ^ 1 for i in range(40)], 2), factorial(20) // factorial(10))
        # As many leave all when done twice as there are ways to pair some of forty things.
        pairs = sum(factorial(40) // (factorial(40 - 2 * k) * factorial(k) * 2 ** k) for k in range(21))
        self.assertEqual(how_many_roots(list(range(40)), 2), pairs)
        self.assertEqual(how_many_roots(worked.turn_of_lengths([40], 1), 3), 1)
        self.assertEqual(how_many_roots(worked.turn_of_lengths([40], 1), 2), 0)

    def test_where_one_length_bars_all(self):
        for lengths, m in (([1] * 38 + [2], 2), ([3] * 12 + [2], 4), ([1] * 20 + [5] * 4, 5), ([2] * 3, 2)):
            p = worked.turn_of_lengths(lengths, 9)
            self.assertEqual(how_many_roots(p, m), 0)
            self.assertEqual(all_roots(p, m), [])
            self.assertEqual(root_told(p, m)[0], "bars")
            for k in (0, 1, -1):
                with self.assertRaises(NoNumber):
                    nth_root(p, m, k)
            with self.assertRaises(NoRoot):
                number_of_root(p, m, p)

    def test_none_just_where_bars_are_told(self):
        for m in worked.SMALL_NUMBERS + worked.GREAT_NUMBERS:
            for p in worked.many_turns():
                self.assertEqual(how_many_roots(p, m) == 0, root_told(p, m)[0] == "bars", (p, m))

    def test_no_things_and_one(self):
        for m in worked.SMALL_NUMBERS + worked.GREAT_NUMBERS:
            for p in ([], [0]):
                self.assertEqual(how_many_roots(p, m), 1)
                self.assertEqual(all_roots(p, m), [p])
                self.assertEqual(nth_root(p, m, 0), p)
                self.assertEqual(number_of_root(p, m, p), 0)

    def test_m_one(self):
        for p in worked.many_turns():
            self.assertEqual(how_many_roots(p, 1), 1)
            self.assertEqual(all_roots(p, 1), [p])
            self.assertEqual(number_of_root(p, 1, list(p)), 0)


class TestAllRoots(unittest.TestCase):
    def check_roots(self, p, m):
        roots = all_roots(p, m)
        self.assertIs(type(roots), list)
        self.assertEqual(len(roots), worked.roots_counted(p, m), (p, m))
        for root in roots:
            self.assertIs(type(root), list)
            self.assertEqual(sorted(root), list(range(len(p))))
            self.assertEqual(worked.power_by_doubling(root, m), p, (p, m))
        for one, other in zip(roots, roots[1:]):
            self.assertLess(one, other)
        return roots

    def check_numbers(self, p, m, roots, every):
        many = len(roots)
        for k in sorted({0, 1, many // 2, many - 2, many - 1} | set(range(0, many, every))):
            if 0 <= k < many:
                root = nth_root(p, m, k)
                self.assertEqual(root, roots[k])
                self.assertEqual(number_of_root(p, m, root), k)
        for k in (-many, -1, many, many + 1, 10 ** 29):
            if not 0 <= k < many:
                with self.assertRaises(NoNumber):
                    nth_root(p, m, k)

    def test_more_things(self):
        for p, m in asked_turns():
            if worked.roots_counted(p, m) <= 2000:
                self.check_numbers(p, m, self.check_roots(p, m), 101)

    def test_many_things(self):
        for m in [2, 3, 4, 6, 10, 12, 30, 60] + worked.GREAT_NUMBERS:
            for p in worked.many_turns():
                if worked.roots_counted(p, m) <= 2000:
                    self.check_numbers(p, m, self.check_roots(p, m), 211)
                else:
                    with self.assertRaises(TooMany):
                        all_roots(p, m)

    def test_the_told_root_is_one_of_them(self):
        for p, m in asked_turns():
            if 0 < worked.roots_counted(p, m) <= 2000:
                root = root_told(p, m)[1]
                self.assertEqual(all_roots(p, m)[number_of_root(p, m, root)], root)

    def test_just_two_thousand(self):
        for at, (lengths, m) in enumerate(worked.TWO_THOUSAND_ROOTS):
            p = worked.turn_of_lengths(lengths, at)
            self.assertEqual(how_many_roots(p, m), 2000)
            roots = self.check_roots(p, m)
            self.assertEqual(len(roots), 2000)
            self.check_numbers(p, m, roots, 397)
            for other in (worked.back(p), p):
                if worked.power_by_doubling(other, m) != p:
                    with self.assertRaises(NoRoot):
                        number_of_root(p, m, other)

    def test_more_than_two_thousand(self):
        for at, (lengths, m, many) in enumerate(worked.MORE_ROOTS):
            p = worked.turn_of_lengths(lengths, at)
            told = how_many_roots(p, m)
            self.assertGreater(told, 2000)
            self.assertEqual(told, worked.roots_counted(p, m))
            if many is not None:
                self.assertEqual(told, many)
            with self.assertRaises(TooMany):
                all_roots(p, m)
            for k in (0, 1, 1999, 2000, told - 1):
                with self.assertRaises(TooMany):
                    nth_root(p, m, k)
            with self.assertRaises(TooMany):
                number_of_root(p, m, root_told(p, m)[1])


class TestRefusals(unittest.TestCase):
    def test_no_turn_goes_first(self):
        for thing in worked.no_turns():
            for m in (1, 2, 10 ** 29, 0, -1):
                for asked, rest in ((how_many_roots, []), (all_roots, []), (nth_root, [0]), (nth_root, [-1])):
                    with self.assertRaises(NoTurn):
                        asked(thing, m, *rest)
                for p in ([], [0], [1, 0], list(range(40))):
                    with self.assertRaises(NoTurn):
                        number_of_root(thing, m, p)
                    with self.assertRaises(NoTurn):
                        number_of_root(p, m, thing)
                with self.assertRaises(NoTurn):
                    number_of_root(thing, m, thing)

    def test_m_below_one(self):
        for m in BELOW_ONE:
            for p in ([], [0], [1, 0], list(range(40)), worked.turn_of_lengths([4, 2], 1)):
                with self.assertRaises(NoNumber):
                    how_many_roots(p, m)
                with self.assertRaises(NoNumber):
                    all_roots(p, m)
                for k in (0, -1, 10 ** 29):
                    with self.assertRaises(NoNumber):
                        nth_root(p, m, k)
                # Ahead of NoFit, TooMany and NoRoot.
                for r in ([], [0], [0, 1], [2, 1, 0], list(range(40))):
                    with self.assertRaises(NoNumber):
                        number_of_root(p, m, r)

    def test_unlike_many_things(self):
        # Ahead of TooMany and of NoRoot.
        for p in ([], [0], [1, 0], list(range(12)), list(range(40))):
            for r in ([], [0], [1, 0], list(range(11)), list(range(39))):
                if len(p) != len(r):
                    for m in (1, 2, 5, 10 ** 29):
                        with self.assertRaises(NoFit):
                            number_of_root(p, m, r)

    def test_too_many_ahead_of_no_number_of_k(self):
        for k in (-1, -10 ** 29, 10 ** 29, 2 * 10 ** 29):
            with self.assertRaises(TooMany):
                nth_root(list(range(40)), 2, k)
            with self.assertRaises(TooMany):
                nth_root(list(range(9)), 2, k)

    def test_too_many_ahead_of_no_root(self):
        self.assertEqual(how_many_roots(list(range(9)), 2), 2620)
        for r in ([1, 2, 0] + list(range(3, 9)), worked.turn_of_lengths([9], 2)):
            with self.assertRaises(TooMany):
                number_of_root(list(range(9)), 2, r)

    def test_no_root_alone(self):
        for p, m, r in (([1, 0], 2, [0, 1]), ([0, 1, 2], 2, [1, 2, 0]), ([1, 2, 0], 2, [1, 2, 0]), ([1, 0], 1, [0, 1])):
            with self.assertRaises(NoRoot):
                number_of_root(p, m, r)

    def test_no_number_of_k_alone(self):
        for p, m, k in (([], 1, 1), ([], 1, -1), ([0], 5, 1), ([1, 0], 2, 0), ([0, 1, 2], 2, 4), ([0, 1, 2], 2, -1)):
            with self.assertRaises(NoNumber):
                nth_root(p, m, k)


if __name__ == "__main__":
    unittest.main()
