"""[18]: whether two are powers of one."""

import random
import unittest

import worked
from turnroots.errors import NoFit, NoTurn, TooMany
from turnroots.ofone import powers_of_one


def powers(r):
    return [worked.power_step_by_step(r, k) for k in range(worked.home(r))]


def pairs_of_one(turns):
    """All pairs that are powers of one, by going through all that they may be powers of."""
    told = set()
    for r in turns:
        every = [tuple(power) for power in powers(r)]
        told.update((one, other) for one in every for other in every)
    return told


class TestPowersOfOne(unittest.TestCase):
    def check_told(self, p, q):
        told = powers_of_one(p, q)
        self.assertIs(type(told), tuple, (p, q))
        self.assertEqual(len(told), 3)
        r, a, b = told
        self.assertIs(type(r), list)
        self.assertEqual(sorted(r), list(range(len(p))))
        for number, power in ((a, p), (b, q)):
            self.assertIs(type(number), int)
            self.assertTrue(0 <= number < worked.home(r), (told, p, q))
            self.assertEqual(worked.power_step_by_step(r, number), power, (told, p, q))

    def check_pairs(self, firsts, seconds, pairs):
        for p in firsts:
            for q in seconds:
                if (tuple(p), tuple(q)) in pairs:
                    self.check_told(p, q)
                    self.assertEqual(worked.behind(p, q), worked.behind(q, p))
                else:
                    self.assertIsNone(powers_of_one(p, q), (p, q))

    def test_through_all_pairs(self):
        for n in range(6):
            turns = worked.all_turns(n)
            self.check_pairs(turns, turns, pairs_of_one(turns))

    def test_six_things(self):
        turns = worked.all_turns(6)
        self.check_pairs(turns[::23], turns, pairs_of_one(turns))

    def test_one_of_seven_and_eight_with_all(self):
        for lengths in ([2, 2, 3], [4, 2, 1], [6, 1], [2, 2, 2, 2], [4, 4], [6, 2], [3, 3, 2], [2, 2, 1, 1, 1, 1], [5, 3]):
            p = worked.turn_of_lengths(lengths, 5)
            turns = [q for q in worked.all_turns(len(p)) if worked.behind(p, q) == worked.behind(q, p)]
            # What has p for a power goes past p, so no other one need be gone through.
            self.check_pairs([p], turns, pairs_of_one(turns))
            self.check_pairs(turns[::5], [p], pairs_of_one(turns))

    def test_powers_of_eight(self):
        dealer = random.Random(3)
        for lengths in ([8], [7, 1], [6, 2], [5, 3], [5, 2, 1], [4, 4], [4, 3, 1], [3, 3, 2], [4, 2, 2], [1] * 8):
            every = powers(worked.turn_of_lengths(lengths, dealer.randrange(99)))
            for p in every:
                for q in every:
                    self.check_told(p, q)

    def test_past_one_another_but_of_none(self):
        self.assertIsNone(powers_of_one([1, 0, 2, 3], [0, 1, 3, 2]))
        self.assertIsNone(powers_of_one([1, 0, 3, 2], [2, 3, 0, 1]))
        self.assertIsNone(powers_of_one([1, 0, 3, 2, 5, 4, 7, 6], [2, 3, 0, 1, 6, 7, 4, 5]))
        self.assertIsNone(powers_of_one([1, 2, 3, 0, 4, 5], [0, 1, 2, 3, 5, 4]))

    def test_of_lengths_with_nothing_in_common(self):
        self.check_told([1, 0, 2, 3, 4], [0, 1, 3, 4, 2])
        self.check_told([1, 2, 0, 3, 4, 5, 6, 7], [0, 1, 2, 4, 5, 6, 7, 3])

    def test_edges(self):
        self.assertEqual(powers_of_one([], []), ([], 0, 0))
        self.assertEqual(powers_of_one([0], [0]), ([0], 0, 0))
        self.check_told(list(range(8)), list(range(8)))
        self.check_told(worked.turn_of_lengths([8], 1), list(range(8)))
        self.check_told(list(range(8)), worked.turn_of_lengths([8], 1))

    def test_eight_and_nine_things(self):
        self.check_told(list(range(8)), [i ^ 1 for i in range(8)])
        for n in (9, 10, 12, 39, 40):
            leaves = list(range(n))
            for p, q in (
                (leaves, leaves), (worked.turn_of_lengths([n], 1), leaves),
                (worked.turn_of_lengths([n], 1), worked.turn_of_lengths([n], 2)),
                ([1, 0] + leaves[2:], [0, 2, 1] + leaves[3:]),
            ):
                with self.assertRaises(TooMany):
                    powers_of_one(p, q)

    def test_unlike_many_things(self):
        # Ahead of TooMany.
        for n in (0, 1, 2, 7, 8, 9, 10, 40):
            for other in (0, 1, 2, 7, 8, 9, 10, 40):
                if n != other:
                    with self.assertRaises(NoFit):
                        powers_of_one(list(range(n)), list(range(other)))

    def test_no_turn_goes_first(self):
        for thing in worked.no_turns():
            for p in ([], [0], [1, 0], list(range(8)), list(range(9)), list(range(40))):
                with self.assertRaises(NoTurn):
                    powers_of_one(thing, p)
                with self.assertRaises(NoTurn):
                    powers_of_one(p, thing)
            with self.assertRaises(NoTurn):
                powers_of_one(thing, thing)


if __name__ == "__main__":
    unittest.main()
