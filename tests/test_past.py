"""[15], [16] and [17], and [4] as far as it speaks of them: past one another, named anew, families."""

import unittest
from math import factorial

import worked
from turnroots.allroots import all_roots, how_many_roots
from turnroots.errors import NoFit, NoNumber, NoTurn, TooMany
from turnroots.past import all_past, go_past, how_many_past, named_anew, root_families

FEW_NUMBERS = [1, 2, 3, 4, 6, 10, 12, 60] + worked.GREAT_NUMBERS[:3]


def past_by_going_through(p, turns):
    return [s for s in turns if worked.behind(p, s) == worked.behind(s, p)]


def families_by_going_through(roots, past):
    """Families by what goes past: each root with all that it is sent to."""
    told = []
    for root in roots:
        family = sorted({tuple(worked.renamed(root, s)) for s in past})
        if [list(one) for one in family] not in told:
            told.append([list(one) for one in family])
    return sorted(told)


class TestGoPast(unittest.TestCase):
    def test_through_all_pairs(self):
        for n in range(6):
            turns = worked.all_turns(n)
            for p in turns:
                for q in turns:
                    self.assertIs(go_past(p, q), worked.behind(p, q) == worked.behind(q, p))

    def test_many_things(self):
        for p in worked.many_turns():
            for k in (0, 1, 2, -1, 7):
                self.assertIs(go_past(p, worked.power_step_by_step(p, k)), True)
            for q in worked.many_turns():
                if len(p) == len(q):
                    self.assertIs(go_past(p, q), worked.behind(p, q) == worked.behind(q, p))

    def test_unlike_many_things(self):
        for n in range(41):
            for other in (0, 1, 2, 8, 39, 40):
                if n != other:
                    with self.assertRaises(NoFit):
                        go_past(list(range(n)), list(range(other)))


class TestAllPast(unittest.TestCase):
    def check_past(self, p):
        past = all_past(p)
        self.assertIs(type(past), list)
        self.assertEqual(len(past), worked.past_counted(p))
        for s in past:
            self.assertIs(type(s), list)
            self.assertEqual(sorted(s), list(range(len(p))))
            self.assertEqual(worked.behind(p, s), worked.behind(s, p))
        for one, other in zip(past, past[1:]):
            self.assertLess(one, other)

    def test_through_all_rearrangements(self):
        for n in range(6):
            turns = worked.all_turns(n)
            for p in turns:
                past = past_by_going_through(p, turns)
                self.assertEqual(how_many_past(p), len(past))
                self.assertEqual(all_past(p), past)

    def test_six_things(self):
        turns = worked.all_turns(6)
        for p in turns[::37]:
            self.assertEqual(all_past(p), past_by_going_through(p, turns))

    def test_many_things(self):
        for p in worked.many_turns():
            many = how_many_past(p)
            self.assertIs(type(many), int)
            self.assertEqual(many, worked.past_counted(p))
            if many <= 2000:
                self.check_past(p)
            else:
                with self.assertRaises(TooMany):
                    all_past(p)

    def test_forty_things(self):
        self.assertEqual(how_many_past(list(range(40))), factorial(40))
        self.assertEqual(how_many_past([i ^ 1 for i in range(40)]), 2 ** 20 * factorial(20))
        self.assertEqual(how_many_past(worked.turn_of_lengths([40], 1)), 40)
        self.assertEqual(how_many_past(worked.turn_of_lengths([10] * 4, 1)), 240000)
        self.check_past(worked.turn_of_lengths([40], 1))
        self.check_past(worked.turn_of_lengths([20, 20], 1))

    def test_no_things_and_one(self):
        for p in ([], [0]):
            self.assertEqual(how_many_past(p), 1)
            self.assertEqual(all_past(p), [p])

    def test_just_two_thousand(self):
        for at, lengths in enumerate(worked.TWO_THOUSAND_PAST):
            p = worked.turn_of_lengths(lengths, at)
            self.assertEqual(how_many_past(p), 2000)
            self.check_past(p)

    def test_more_than_two_thousand(self):
        for at, (lengths, many) in enumerate(worked.MORE_PAST):
            p = worked.turn_of_lengths(lengths, at)
            self.assertGreater(how_many_past(p), 2000)
            if many is not None:
                self.assertEqual(how_many_past(p), many)
            with self.assertRaises(TooMany):
                all_past(p)


class TestNamedAnew(unittest.TestCase):
    def test_through_all_rearrangements(self):
        for n in range(6):
            turns = worked.all_turns(n)
            for p in turns:
                first = {}
                many = {}
                for s in turns:
                    q = tuple(worked.renamed(p, s))
                    first.setdefault(q, s)
                    many[q] = many.get(q, 0) + 1
                for q in turns:
                    self.assertEqual(named_anew(p, q), first.get(tuple(q)), (p, q))
                for q in many:
                    self.assertEqual(many[q], how_many_past(p))

    def test_six_things(self):
        turns = worked.all_turns(6)
        for p in turns[::53]:
            first = {}
            for s in turns:
                first.setdefault(tuple(worked.renamed(p, s)), s)
            for q in turns:
                self.assertEqual(named_anew(p, q), first.get(tuple(q)), (p, q))

    def test_many_things(self):
        for at, lengths in enumerate(worked.LENGTHS):
            p = worked.turn_of_lengths(lengths, at)
            q = worked.turn_of_lengths(lengths, at + 500)
            s = named_anew(p, q)
            self.assertIs(type(s), list)
            self.assertEqual(sorted(s), list(range(len(p))))
            self.assertEqual(worked.renamed(p, s), q)

    def test_no_other_comes_first(self):
        # All such s are the told one behind all that go past p.
        for lengths in ([4, 5, 5, 10], [1, 1, 2, 2, 5], [3, 3, 3, 2], [6, 6, 1, 1], [2] * 4, [1] * 6, [40], [20, 20]):
            p = worked.turn_of_lengths(lengths, 3)
            q = worked.turn_of_lengths(lengths, 4)
            s = named_anew(p, q)
            every = [worked.behind(s, past) for past in all_past(p)]
            self.assertEqual(min(every), s)
            self.assertTrue(all(worked.renamed(p, one) == q for one in every))

    def test_itself(self):
        for p in worked.many_turns():
            self.assertEqual(named_anew(p, p), list(range(len(p))))

    def test_unlike_kinds(self):
        for p, q in (
            ([0, 1], [1, 0]), ([1, 0], [0, 1]), ([1, 0, 3, 2], [1, 2, 3, 0]), ([1, 0, 2, 3], [1, 0, 3, 2]),
            (list(range(40)), worked.turn_of_lengths([40], 1)),
            (worked.turn_of_lengths([3, 3, 2, 2], 1), worked.turn_of_lengths([4, 3, 2, 1], 1)),
            (worked.turn_of_lengths([4, 4, 1], 1), worked.turn_of_lengths([3, 3, 3], 1)),
        ):
            self.assertIsNone(named_anew(p, q))

    def test_unlike_many_things(self):
        # Ahead of None, for their kinds are unlike too.
        for n in range(41):
            for other in (0, 1, 2, 8, 39, 40):
                if n != other:
                    with self.assertRaises(NoFit):
                        named_anew(list(range(n)), list(range(other)))


class TestRootFamilies(unittest.TestCase):
    def test_through_all_rearrangements(self):
        for n in range(6):
            turns = worked.all_turns(n)
            for m in FEW_NUMBERS:
                through = worked.roots_by_going_through(turns, m)
                for p in turns:
                    roots = through.get(tuple(p), [])
                    past = past_by_going_through(p, turns) if roots else []
                    self.assertEqual(root_families(p, m), families_by_going_through(roots, past), (p, m))

    def test_by_what_goes_past(self):
        for lengths, m in (([1] * 6, 6), ([2] * 4, 2), ([3] * 3, 6), ([1] * 4 + [3, 3], 2), ([2] * 4 + [1], 6)):
            p = worked.turn_of_lengths(lengths, 8)
            self.assertEqual(root_families(p, m), families_by_going_through(all_roots(p, m), all_past(p)))

    def check_families(self, p, m):
        families = root_families(p, m)
        self.assertIs(type(families), list)
        self.assertEqual(sorted(families), families)
        kinds = []
        for family in families:
            self.assertIs(type(family), list)
            self.assertEqual(sorted(family), family)
            family_kinds = [sorted(len(ring) for ring in worked.rounds(root)) for root in family]
            self.assertEqual(family_kinds, [family_kinds[0]] * len(family))
            self.assertNotIn(family_kinds[0], kinds)
            kinds.append(family_kinds[0])
        together = [root for family in families for root in family]
        self.assertEqual(sorted(together), all_roots(p, m))

    def test_many_things(self):
        for m in (1, 2, 3, 6, 12, 10 ** 29):
            for p in worked.many_turns():
                if how_many_roots(p, m) <= 2000:
                    self.check_families(p, m)
                else:
                    with self.assertRaises(TooMany):
                        root_families(p, m)

    def test_few_roots_with_many_that_go_past(self):
        self.assertEqual(root_families(list(range(40)), 41), [[list(range(40))]])
        self.assertEqual(root_families(list(range(40)), 1), [[list(range(40))]])

    def test_none_and_one(self):
        self.assertEqual(root_families([], 2), [[[]]])
        self.assertEqual(root_families([0], 2), [[[0]]])
        self.assertEqual(root_families([1, 0], 2), [])
        self.assertEqual(root_families([0, 1], 2), [[[0, 1]], [[1, 0]]])
        self.assertEqual(root_families(worked.turn_of_lengths([1] * 38 + [2], 1), 2), [])

    def test_just_two_thousand_and_more(self):
        for at, (lengths, m) in enumerate(worked.TWO_THOUSAND_ROOTS[:2]):
            self.check_families(worked.turn_of_lengths(lengths, at), m)
        for at, (lengths, m, many) in enumerate(worked.MORE_ROOTS):
            with self.assertRaises(TooMany):
                root_families(worked.turn_of_lengths(lengths, at), m)

    def test_m_below_one(self):
        # Ahead of TooMany, which forty things would be due.
        for m in (0, -1, -2, -10 ** 29):
            for p in ([], [0], [1, 0], list(range(40))):
                with self.assertRaises(NoNumber):
                    root_families(p, m)


class TestNoTurn(unittest.TestCase):
    def test_no_turn_goes_first(self):
        for thing in worked.no_turns():
            for asked in (how_many_past, all_past):
                with self.assertRaises(NoTurn):
                    asked(thing)
            for m in (1, 2, 0, -1):
                with self.assertRaises(NoTurn):
                    root_families(thing, m)
            for asked in (go_past, named_anew):
                for p in ([], [0], [1, 0], list(range(40))):
                    with self.assertRaises(NoTurn):
                        asked(thing, p)
                    with self.assertRaises(NoTurn):
                        asked(p, thing)
                with self.assertRaises(NoTurn):
                    asked(thing, thing)


if __name__ == "__main__":
    unittest.main()
