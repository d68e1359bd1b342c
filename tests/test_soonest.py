"""[14], and [4] as far as it speaks of it: the root that is home soonest."""

import unittest

import worked
from turnroots.errors import NoNumber, NoTurn, TooMany
from turnroots.soonest import soonest_root

FEW_NUMBERS = list(range(1, 13)) + [30, 60] + worked.GREAT_NUMBERS
SIXTEEN = [
    [1] * 16, [2] * 8, [4] * 4, [8, 8], [16], [3] * 5 + [1], [5] * 3 + [1], [4, 4, 2, 2, 1, 1, 1, 1], [3, 3, 2, 2, 2, 2, 1, 1],
    [6, 6, 2, 2], [7, 7, 1, 1], [5, 5, 3, 3], [2] * 4 + [1] * 8, [2] * 6 + [4], [12, 4], [9, 7], [3] * 4 + [2] * 2, [6, 6, 4],
]


class TestSoonestRoot(unittest.TestCase):
    def check_told(self, p, m, home):
        told = soonest_root(p, m)
        if home is None:
            self.assertIsNone(told, (p, m))
            return
        self.assertIs(type(told), tuple)
        self.assertEqual(len(told), 2)
        self.assertIs(type(told[0]), int)
        self.assertIs(type(told[1]), list)
        self.assertEqual(told[0], home, (p, m))
        self.assertEqual(sorted(told[1]), list(range(len(p))))
        self.assertEqual(worked.power_by_doubling(told[1], m), p, (p, m))
        self.assertEqual(worked.home(told[1]), home, (p, m))

    def test_through_all_rearrangements(self):
        for n in range(7):
            turns = worked.all_turns(n)
            for m in FEW_NUMBERS:
                through = worked.roots_by_going_through(turns, m)
                for p in turns:
                    homes = [worked.home(root) for root in through.get(tuple(p), [])]
                    self.check_told(p, m, min(homes, default=None))

    def test_by_all_partings(self):
        turns = [worked.turn_of_lengths(lengths, 70 + at) for at, lengths in enumerate(SIXTEEN)]
        for p in turns + [p for p in worked.many_turns() if len(p) <= 16]:
            for m in worked.SMALL_NUMBERS + worked.GREAT_NUMBERS:
                self.check_told(p, m, worked.soonest_home(p, m))

    def test_by_hand(self):
        self.assertEqual(soonest_root([], 6), (1, []))
        self.assertEqual(soonest_root([0], 6), (1, [0]))
        self.assertEqual(soonest_root(list(range(16)), 10 ** 29), (1, list(range(16))))
        self.assertEqual(soonest_root([1, 2, 0], 2), (3, [2, 0, 1]))
        self.assertIsNone(soonest_root([1, 0], 2))
        self.assertEqual(soonest_root(worked.turn_of_lengths([2, 2], 1), 2)[0], 4)
        # Alone, each of the three rounds keeps its length; put together they would be home at 15.
        self.assertEqual(soonest_root(worked.turn_of_lengths([5] * 3, 1), 3)[0], 5)
        self.assertEqual(soonest_root(worked.turn_of_lengths([4] * 4, 1), 6)[0], 8)

    def test_sixteen_and_seventeen(self):
        for m in (1, 2, 5, 10 ** 29):
            self.check_told(list(range(16)), m, 1)
            for n in (17, 18, 20, 39, 40):
                for p in (list(range(n)), worked.turn_of_lengths([n], 1), worked.turn_of_lengths([2] + [1] * (n - 2), 1)):
                    with self.assertRaises(TooMany):
                        soonest_root(p, m)

    def test_m_below_one(self):
        # Ahead of TooMany.
        for m in (0, -1, -2, -10 ** 29):
            for p in ([], [0], [1, 0], list(range(16)), list(range(17)), list(range(40))):
                with self.assertRaises(NoNumber):
                    soonest_root(p, m)

    def test_no_turn_goes_first(self):
        for thing in worked.no_turns():
            for m in (1, 2, 10 ** 29, 0, -1):
                with self.assertRaises(NoTurn):
                    soonest_root(thing, m)


if __name__ == "__main__":
    unittest.main()
