"""[7], [8] and [9]: rounds, kind, home, and the way from rounds."""

import random
import unittest
from math import gcd

import worked
from turnroots.errors import NoRounds, NoTurn
from turnroots.rounds import from_rounds, home_of, kind_of, rounds_of
from turnroots.turns import power_of

NO_ROUNDS = [
    [[]], [[], []], [[0], []], [[], [0]], [[1, 0], [], [2]],
    [[1]], [[0], [2]], [[0, 2]], [[1, 2]], [[0, 1], [3]], [[2], [1]], [list(range(1, 41))],
    [[0, 0]], [[0], [0]], [[0, 1], [1]], [[0, 1], [1, 2]], [[0, 1, 0]], [[0, 1, 2], [2]], [[0, 1, 1, 2]],
    [[-1]], [[-1, 0]], [[0], [-1]], [[0, 1, -1]], [[-10 ** 30]], [[10 ** 30]], [[0], [10 ** 30]],
    [list(range(41))], [[i] for i in range(41)], [list(range(20)), list(range(20, 41))],
    [list(range(3000))], [[i] for i in range(3000)], [[0]] * 3000, [[]] * 3000, [[0] * 3000],
]


class TestRoundsOf(unittest.TestCase):
    def test_ordinary(self):
        self.assertEqual(rounds_of([3, 1, 4, 0, 2]), [[0, 3], [1], [2, 4]])
        self.assertEqual(rounds_of([2, 3, 1, 0]), [[0, 2, 1, 3]])

    def test_thing_by_thing(self):
        for p in worked.many_turns() + worked.all_turns(6):
            told = rounds_of(p)
            self.assertEqual(told, worked.rounds(p))
            self.assertEqual(told, sorted(told, key=lambda ring: ring[0]))
            for ring in told:
                self.assertEqual(ring[0], min(ring))

    def test_edges(self):
        self.assertEqual(rounds_of([]), [])
        self.assertEqual(rounds_of([0]), [[0]])
        self.assertEqual(rounds_of(list(range(40))), [[i] for i in range(40)])

    def test_no_turn(self):
        for thing in worked.no_turns():
            with self.assertRaises(NoTurn):
                rounds_of(thing)


class TestKindOf(unittest.TestCase):
    def test_lengths_falling(self):
        for at, lengths in enumerate(worked.LENGTHS):
            for seed in (at, at + 50):
                self.assertEqual(kind_of(worked.turn_of_lengths(lengths, seed)), sorted(lengths, reverse=True))

    def test_thing_by_thing(self):
        for p in worked.many_turns() + worked.all_turns(6):
            self.assertEqual(kind_of(p), sorted([len(ring) for ring in worked.rounds(p)], reverse=True))

    def test_edges(self):
        self.assertEqual(kind_of([]), [])
        self.assertEqual(kind_of([0]), [1])
        self.assertEqual(kind_of([3, 1, 4, 0, 2]), [2, 2, 1])

    def test_no_turn(self):
        for thing in worked.no_turns():
            with self.assertRaises(NoTurn):
                kind_of(thing)


class TestHomeOf(unittest.TestCase):
    def test_least_power_that_leaves_all(self):
        for p in worked.all_turns(6) + [p for p in worked.many_turns() if len(p) <= 20]:
            k = 1
            power = list(p)
            while power != list(range(len(p))):
                power = worked.behind(p, power)
                k += 1
            self.assertEqual(home_of(p), k)

    def test_many_things(self):
        for p in worked.many_turns():
            home = home_of(p)
            self.assertIs(type(home), int)
            self.assertEqual(worked.power_by_doubling(p, home), list(range(len(p))))
            # If a lesser k led home, so would home divided by some prime.
            for prime in (2, 3, 5, 7, 11, 13, 17, 19, 23, 29, 31, 37):
                if home % prime == 0:
                    self.assertNotEqual(worked.power_by_doubling(p, home // prime), list(range(len(p))))

    def test_edges(self):
        self.assertEqual(home_of([]), 1)
        self.assertEqual(home_of([0]), 1)
        self.assertEqual(home_of(list(range(40))), 1)
        self.assertEqual(home_of(worked.turn_of_lengths([13, 11, 7, 5, 3, 1], 3)), 15015)
        self.assertEqual(home_of(worked.turn_of_lengths([4, 6], 3)), 12)
        self.assertEqual(home_of(worked.turn_of_lengths([40], 3)), 40)

    def test_no_turn(self):
        for thing in worked.no_turns():
            with self.assertRaises(NoTurn):
                home_of(thing)


class TestFromRounds(unittest.TestCase):
    def test_ordinary(self):
        self.assertEqual(from_rounds([[0, 3], [1], [2, 4]]), [3, 1, 4, 0, 2])
        self.assertEqual(from_rounds([[4, 2], [3, 0], [1]]), [3, 1, 4, 0, 2])
        self.assertEqual(from_rounds([[2, 1, 0]]), [2, 0, 1])

    def test_there_and_back(self):
        for p in worked.many_turns() + worked.all_turns(6):
            self.assertEqual(from_rounds(worked.rounds(p)), p)
            self.assertEqual(from_rounds(rounds_of(p)), p)

    def test_any_order_begun_anywhere(self):
        dealer = random.Random(11)
        for p in worked.many_turns():
            for _ in range(5):
                rounds = []
                for ring in worked.rounds(p):
                    begin = dealer.randrange(len(ring))
                    rounds.append(ring[begin:] + ring[:begin])
                dealer.shuffle(rounds)
                self.assertEqual(from_rounds(rounds), p)

    def test_edges(self):
        self.assertEqual(from_rounds([]), [])
        self.assertEqual(from_rounds([[0]]), [0])
        self.assertEqual(from_rounds([list(range(40))]), list(range(1, 40)) + [0])
        self.assertEqual(from_rounds([[i] for i in range(39, -1, -1)]), list(range(40)))

    def test_no_rounds(self):
        for rounds in NO_ROUNDS:
            with self.subTest(rounds=str(rounds)[:60]):
                with self.assertRaises(NoRounds):
                    from_rounds(rounds)


class TestPowerOfARound(unittest.TestCase):
    def test_falls_into_the_told_rounds(self):
        for l in range(1, 41):
            p = worked.turn_of_lengths([l], l)
            for k in list(range(-45, 46)) + worked.GREAT_NUMBERS + [-k for k in worked.GREAT_NUMBERS]:
                d = gcd(l, k)
                self.assertEqual(kind_of(power_of(p, k)), [l // d] * d, (l, k))


if __name__ == "__main__":
    unittest.main()
