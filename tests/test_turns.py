"""[5] and [6]: what a rearrangement is, one behind another, the way back, powers."""

import itertools
import unittest

import worked
from turnroots.errors import NoFit, NoTurn
from turnroots.turns import is_turn, power_of, put_behind, way_back


class TestIsTurn(unittest.TestCase):
    def test_those_that_are(self):
        for p in worked.many_turns() + worked.all_turns(5):
            self.assertIs(is_turn(p), True, p)

    def test_none_one_forty_and_more(self):
        self.assertIs(is_turn([]), True)
        self.assertIs(is_turn([0]), True)
        self.assertIs(is_turn(list(range(40))), True)
        self.assertIs(is_turn(list(range(39, -1, -1))), True)
        self.assertIs(is_turn(list(range(41))), False)
        self.assertIs(is_turn(list(range(40, -1, -1))), False)

    def test_those_that_are_not(self):
        for at, thing in enumerate(worked.no_turns()):
            self.assertIs(is_turn(thing), False, at)

    def test_every_list_of_few_numbers(self):
        for n in range(5):
            for numbers in itertools.product(range(-1, n + 2), repeat=n):
                self.assertIs(is_turn(list(numbers)), sorted(numbers) == list(range(n)), numbers)

    def test_truths_in_the_place_of_numbers(self):
        for n in range(1, 5):
            for p in worked.all_turns(n):
                for at in range(n):
                    if p[at] < 2:
                        self.assertIs(is_turn(p[:at] + [bool(p[at])] + p[at + 1:]), False)


class TestPutBehind(unittest.TestCase):
    def test_thing_by_thing(self):
        self.assertEqual(put_behind([1, 2, 0], [0, 2, 1]), [1, 0, 2])
        for n in range(5):
            for p in worked.all_turns(n):
                for q in worked.all_turns(n):
                    self.assertEqual(put_behind(p, q), worked.behind(p, q))

    def test_many_things(self):
        turns = worked.many_turns()
        for p in turns:
            for q in turns:
                if len(p) == len(q):
                    self.assertEqual(put_behind(p, q), worked.behind(p, q))

    def test_itself(self):
        for p in worked.many_turns():
            self.assertEqual(put_behind(p, p), worked.behind(p, p))

    def test_unlike_many_things(self):
        for n in range(41):
            for other in range(41):
                if n != other:
                    with self.assertRaises(NoFit):
                        put_behind(list(range(n)), list(range(other)))

    def test_no_turn_in_either_place(self):
        for thing in worked.no_turns():
            for p in ([], [0], [1, 0], list(range(40))):
                with self.assertRaises(NoTurn):
                    put_behind(thing, p)
                with self.assertRaises(NoTurn):
                    put_behind(p, thing)
            with self.assertRaises(NoTurn):
                put_behind(thing, thing)


class TestWayBack(unittest.TestCase):
    def test_thing_by_thing(self):
        self.assertEqual(way_back([]), [])
        self.assertEqual(way_back([1, 2, 0]), [2, 0, 1])
        for p in worked.many_turns() + worked.all_turns(5):
            self.assertEqual(way_back(p), worked.back(p))

    def test_no_turn(self):
        for thing in worked.no_turns():
            with self.assertRaises(NoTurn):
                way_back(thing)


class TestPowerOf(unittest.TestCase):
    def test_step_by_step(self):
        self.assertEqual(power_of([1, 2, 3, 0], 3), [3, 0, 1, 2])
        for p in worked.many_turns():
            for k in list(range(-13, 14)) + [60, -60, 97, -97]:
                self.assertEqual(power_of(p, k), worked.power_step_by_step(p, k), (p, k))

    def test_all_of_few_things(self):
        for n in range(6):
            for p in worked.all_turns(n):
                for k in range(-7, 8):
                    self.assertEqual(power_of(p, k), worked.power_step_by_step(p, k))

    def test_far_powers(self):
        for p in worked.many_turns():
            for k in worked.GREAT_NUMBERS:
                self.assertEqual(power_of(p, k), worked.power_by_doubling(p, k), (p, k))
                self.assertEqual(power_of(p, -k), worked.power_by_doubling(p, -k), (p, -k))

    def test_the_two_ways_of_working_out_are_one(self):
        for p in worked.many_turns():
            for k in range(-20, 21):
                self.assertEqual(worked.power_by_doubling(p, k), worked.power_step_by_step(p, k))

    def test_none_once_and_back(self):
        for p in worked.many_turns():
            self.assertEqual(power_of(p, 0), list(range(len(p))))
            self.assertEqual(power_of(p, 1), p)
            self.assertEqual(power_of(p, -1), worked.back(p))

    def test_no_turn(self):
        for thing in worked.no_turns():
            for k in (0, 1, -1, 10 ** 29):
                with self.assertRaises(NoTurn):
                    power_of(thing, k)


if __name__ == "__main__":
    unittest.main()
