"""[2] and [3] for all modules: what is handed in, what is told, and which refusal goes first."""

import copy
import unittest

import worked
from turnroots.allroots import all_roots, how_many_roots, nth_root, number_of_root
from turnroots.counted import how_many_have, how_many_home, how_many_of, kinds_of
from turnroots.desk import Desk
from turnroots.errors import NoFit, NoNumber, NoTurn, TurnError
from turnroots.hasroot import least_right, root_told
from turnroots.ofone import powers_of_one
from turnroots.past import all_past, go_past, how_many_past, named_anew, root_families
from turnroots.rounds import from_rounds, home_of, kind_of, rounds_of
from turnroots.soonest import soonest_root
from turnroots.texts import read_turn, show_turn
from turnroots.turns import is_turn, power_of, put_behind, way_back


def questions():
    """Each question with fresh arguments, and the kind of its answer."""
    told = [(least_right, [4, 6], int), (from_rounds, [[]], list), (put_behind, [[], []], list)]
    for p in worked.many_turns():
        told.append((is_turn, [list(p)], bool))
        told.append((put_behind, [list(p), worked.back(p)], list))
        told.append((way_back, [list(p)], list))
        for k in (0, 1, -1, 6, 10 ** 29):
            told.append((power_of, [list(p), k], list))
        told.append((rounds_of, [list(p)], list))
        told.append((kind_of, [list(p)], list))
        told.append((home_of, [list(p)], int))
        told.append((from_rounds, [worked.rounds(p)], list))
        for m in (1, 2, 6, 10 ** 29 + 1):
            told.append((root_told, [list(p), m], tuple))
            told.append((how_many_roots, [list(p), m], int))
        told.append((how_many_past, [list(p)], int))
        told.append((go_past, [list(p), worked.back(p)], bool))
        told.append((named_anew, [list(p), worked.back(p)], list))
        told.append((named_anew, [list(p), list(p)], list))
    return told + questions_about_roots() + questions_about_past() + questions_about_counts() + questions_about_texts()


def questions_about_roots():
    told = []
    for p in worked.many_turns():
        for m in (1, 2, 6, 10 ** 29 + 1):
            if worked.roots_counted(p, m) <= 60:
                told.append((all_roots, [list(p), m], list))
                told.append((root_families, [list(p), m], list))
            if 0 < worked.roots_counted(p, m) <= 60:
                told.append((nth_root, [list(p), m, 0], list))
                told.append((number_of_root, [list(p), m, root_told(p, m)[1]], int))
            if len(p) <= 16:
                kind = type(None) if worked.soonest_home(p, m) is None else tuple
                told.append((soonest_root, [list(p), m], kind))
    return told


def questions_about_past():
    told = [(named_anew, [[0, 1], [1, 0]], type(None)), (powers_of_one, [[1, 0, 2], [0, 2, 1]], type(None))]
    for p in worked.many_turns():
        if worked.past_counted(p) <= 200:
            told.append((all_past, [list(p)], list))
        if len(p) <= 8:
            told.append((powers_of_one, [list(p), worked.back(p)], tuple))
            told.append((powers_of_one, [list(p), list(range(len(p)))], tuple))
            told.append((powers_of_one, [list(range(len(p))), list(p)], tuple))
    return told


def questions_about_counts():
    told = [(how_many_of, [[]], int)]
    for n in range(13):
        told.append((kinds_of, [n], list))
        for m in (1, 2, 6, 10 ** 29 + 1):
            told.append((how_many_have, [n, m], int))
            told.append((how_many_home, [n, m], int))
    for lengths in worked.LENGTHS:
        told.append((how_many_of, [sorted(lengths, reverse=True)], int))
    return told


def questions_about_texts():
    told = []
    for p in worked.many_turns():
        told.append((show_turn, [list(p)], str))
        told.append((read_turn, [worked.written(p)], list))
    return told


def lists_within(thing):
    """All lists in what was told or handed in, itself too."""
    found = [thing] if isinstance(thing, list) else []
    if isinstance(thing, (list, tuple)):
        for part in thing:
            found.extend(lists_within(part))
    return found


def spoil(thing):
    for found in lists_within(thing):
        found.clear()
        found.append("spoilt")


class TestToldAndHandedIn(unittest.TestCase):
    def test_kinds(self):
        for asked, handed, kind in questions():
            self.assertIs(type(asked(*handed)), kind, asked.__name__)

    def test_whole_numbers_and_lists_within(self):
        for asked, handed, kind in questions():
            if asked in (put_behind, way_back, power_of, kind_of, from_rounds, nth_root, read_turn):
                self.assertTrue(all(type(part) is int for part in asked(*handed)))
            if asked in (rounds_of, all_roots, all_past, root_families, kinds_of):
                self.assertTrue(all(type(part) is list for part in asked(*handed)))
            if asked == root_families:
                self.assertTrue(all(type(root) is list for family in asked(*handed) for root in family))

    def test_handed_in_stays(self):
        for asked, handed, kind in questions():
            before = copy.deepcopy(handed)
            asked(*handed)
            self.assertEqual(handed, before, asked.__name__)

    def test_handed_in_stays_where_refused(self):
        for asked, handed in [
            (put_behind, [[1, 0], [0]]), (put_behind, [[1, 0], [1, 1]]), (way_back, [[2, 0]]), (power_of, [[0, 0], 3]),
            (from_rounds, [[[1, 0], [3]]]), (from_rounds, [[[0], []]]), (root_told, [[1, 0], 0]),
            (how_many_roots, [[1, 0], 0]), (all_roots, [list(range(40)), 2]), (nth_root, [[1, 0], 2, 0]),
            (nth_root, [list(range(40)), 2, 0]), (number_of_root, [[1, 0], 2, [1, 0]]), (number_of_root, [[1, 0], 2, [0]]),
            (number_of_root, [list(range(40)), 2, list(range(40))]), (soonest_root, [list(range(17)), 2]),
            (go_past, [[1, 0], [0]]), (all_past, [list(range(40))]), (named_anew, [[1, 0], [0]]),
            (root_families, [list(range(40)), 2]), (powers_of_one, [[1, 0], [0]]),
            (powers_of_one, [list(range(9)), list(range(9))]), (how_many_of, [[1, 2]]), (how_many_of, [[40, 1]]),
            (how_many_of, [[0]]), (show_turn, [[1, 1]]), (read_turn, [[0]]), (read_turn, [["(0)"]]), (Desk().say, [["names"]]),
        ]:
            before = copy.deepcopy(handed)
            with self.assertRaises(TurnError):
                asked(*handed)
            self.assertEqual(handed, before)

    def test_told_is_new(self):
        for asked, handed, kind in questions():
            one = lists_within(asked(*handed))
            other = lists_within(asked(*handed))
            given = [found for part in handed for found in lists_within(part)]
            marks = [id(found) for found in one + other + given]
            self.assertEqual(len(marks), len(set(marks)), asked.__name__)

    def test_the_same_is_answered_the_same(self):
        for asked, handed, kind in questions():
            told = asked(*handed)
            kept = copy.deepcopy(told)
            spoil(told)
            self.assertEqual(asked(*handed), kept, asked.__name__)
            self.assertEqual(asked(*copy.deepcopy(handed)), kept, asked.__name__)

    def test_nothing_handed_in_is_kept(self):
        for asked, handed, kind in questions():
            fresh = copy.deepcopy(handed)
            told = asked(*handed)
            kept = copy.deepcopy(told)
            for part in handed:
                spoil(part)
            self.assertEqual(told, kept, asked.__name__)
            self.assertEqual(asked(*fresh), kept, asked.__name__)

    def test_one_list_in_two_places(self):
        p = [1, 2, 0]
        told = put_behind(p, p)
        self.assertEqual((told, p), ([2, 0, 1], [1, 2, 0]))
        self.assertIsNot(told, p)
        self.assertIs(go_past(p, p), True)
        self.assertEqual(named_anew(p, p), [0, 1, 2])
        self.assertEqual(number_of_root(p, 1, p), 0)
        r = powers_of_one(p, p)[0]
        self.assertIsNot(r, p)
        self.assertIsNot(all_roots(p, 1)[0], p)
        self.assertIsNot(nth_root(p, 1, 0), p)
        self.assertIsNot(soonest_root(p, 1)[1], p)
        self.assertEqual(p, [1, 2, 0])

    def test_told_may_be_handed_in(self):
        for p in worked.many_turns():
            square = power_of(p, 2)
            self.assertEqual(put_behind(square, way_back(p)), p)
            self.assertEqual(from_rounds(rounds_of(square)), square)
            self.assertEqual(power_of(root_told(square, 2)[1], 2), square)
            if how_many_roots(square, 2) <= 60:
                for k, root in enumerate(all_roots(square, 2)):
                    self.assertEqual(number_of_root(square, 2, root), k)
                    self.assertIs(go_past(root, square), True)
            self.assertEqual(read_turn(show_turn(square)), square)
            self.assertEqual(how_many_of(kind_of(p)), how_many_of(kind_of(way_back(p))))

    def test_counts_may_be_handed_in(self):
        # A count of roots or of a kind may have more than thirty figures, and is a number like any other.
        many = how_many_of([40])
        p = worked.turn_of_lengths([7, 5, 3, 2, 1], 3)
        self.assertEqual(power_of(p, many), worked.power_by_doubling(p, many))
        self.assertEqual(how_many_home(12, many), how_many_home(12, 27720))
        self.assertEqual(how_many_have(4, how_many_of([1] * 40)), 24)
        self.assertEqual(how_many_roots(p, many), worked.roots_counted(p, many))

    def test_asked_after_a_refusal(self):
        for thing in worked.no_turns():
            for asked, rest in ((put_behind, [[0]]), (way_back, []), (power_of, [2]), (rounds_of, []), (root_told, [2])):
                with self.assertRaises(NoTurn):
                    asked(thing, *rest)
        self.assertEqual(root_told([1, 2, 0], 2), root_told([1, 2, 0], 2))
        self.assertEqual(power_of([1, 2, 0], 2), [2, 0, 1])


class TestRootsToRoots(unittest.TestCase):
    def test_what_goes_past_leads_roots_to_roots(self):
        for lengths, m in (([2, 2, 1, 1], 3), ([1] * 4, 2), ([2, 2], 2), ([3, 3, 1], 2), ([4, 4], 6), ([3, 2, 2], 4)):
            p = worked.turn_of_lengths(lengths, 12)
            roots = all_roots(p, m)
            self.assertEqual(len(roots), how_many_roots(p, m))
            for s in all_past(p):
                led = [put_behind(s, put_behind(root, way_back(s))) for root in roots]
                self.assertEqual(sorted(led), roots)


class TestWhichGoesFirst(unittest.TestCase):
    def test_no_turn_ahead_of_no_fit(self):
        for p, q in (([0, 0], [0]), ([0], [0, 0]), ([], [1]), ([1], []), ([0], list(range(41))), (list(range(41)), [0])):
            with self.assertRaises(NoTurn):
                put_behind(p, q)

    def test_no_turn_ahead_of_no_number(self):
        for m in (0, -1):
            for p in ([1], [0, 0], None, (), list(range(41))):
                with self.assertRaises(NoTurn):
                    root_told(p, m)

    def test_no_fit_alone(self):
        with self.assertRaises(NoFit):
            put_behind([0], [1, 0])
        with self.assertRaises(NoFit):
            put_behind([], [0])

    def test_no_number_alone(self):
        with self.assertRaises(NoNumber):
            root_told([], 0)
        with self.assertRaises(NoNumber):
            root_told([1, 0], 0)


if __name__ == "__main__":
    unittest.main()
