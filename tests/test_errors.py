"""[3]: the classes of the refusals, and the texts they are made with."""

import unittest

from turnroots import errors
from turnroots.allroots import all_roots, how_many_roots, nth_root, number_of_root
from turnroots.counted import how_many_have, how_many_home, how_many_of, kinds_of
from turnroots.desk import Desk
from turnroots.hasroot import least_right, root_told
from turnroots.ofone import powers_of_one
from turnroots.past import all_past, go_past, how_many_past, named_anew, root_families
from turnroots.rounds import from_rounds, home_of, kind_of, rounds_of
from turnroots.soonest import soonest_root
from turnroots.texts import read_turn, show_turn
from turnroots.turns import power_of, put_behind, way_back

NAMES = ["NoTurn", "NoFit", "NoRounds", "NoNumber", "NoRoot", "TooMany", "NoKind", "NoText", "NoName", "NoRow"]
FORTY = list(range(40))
REFUSED = [
    (errors.NoTurn, put_behind, ([1], [0])), (errors.NoTurn, put_behind, ([0], None)),
    (errors.NoTurn, way_back, ((0,),)), (errors.NoTurn, power_of, ("", 2)),
    (errors.NoFit, put_behind, ([0], [])),
    (errors.NoTurn, rounds_of, ([True],)), (errors.NoTurn, kind_of, (None,)), (errors.NoTurn, home_of, (1,)),
    (errors.NoRounds, from_rounds, ([[]],)), (errors.NoRounds, from_rounds, ([[1]],)),
    (errors.NoNumber, least_right, (0, 1)), (errors.NoNumber, least_right, (1, 0)),
    (errors.NoTurn, root_told, ([2], 2)), (errors.NoNumber, root_told, ([0], 0)),
    (errors.NoTurn, how_many_roots, ([2], 2)), (errors.NoNumber, how_many_roots, ([0], 0)),
    (errors.NoTurn, all_roots, ([2], 2)), (errors.NoNumber, all_roots, ([0], 0)), (errors.TooMany, all_roots, (FORTY, 2)),
    (errors.NoTurn, nth_root, ([2], 2, 0)), (errors.NoNumber, nth_root, ([0], 0, 0)),
    (errors.TooMany, nth_root, (FORTY, 2, 0)), (errors.NoNumber, nth_root, ([0], 2, 1)),
    (errors.NoTurn, number_of_root, ([2], 2, [0])), (errors.NoTurn, number_of_root, ([0], 2, [2])),
    (errors.NoNumber, number_of_root, ([0], 0, [0])), (errors.NoFit, number_of_root, ([0], 2, [])),
    (errors.TooMany, number_of_root, (FORTY, 2, FORTY)), (errors.NoRoot, number_of_root, ([1, 0], 2, [0, 1])),
    (errors.NoTurn, soonest_root, ([2], 2)), (errors.NoNumber, soonest_root, ([0], 0)),
    (errors.TooMany, soonest_root, (FORTY, 2)),
    (errors.NoTurn, go_past, ([2], [0])), (errors.NoTurn, go_past, ([0], [2])), (errors.NoFit, go_past, ([0], [])),
    (errors.NoTurn, how_many_past, ([2],)), (errors.NoTurn, all_past, ([2],)), (errors.TooMany, all_past, (FORTY,)),
    (errors.NoTurn, named_anew, ([2], [0])), (errors.NoFit, named_anew, ([0], [])),
    (errors.NoTurn, root_families, ([2], 2)), (errors.NoNumber, root_families, ([0], 0)),
    (errors.TooMany, root_families, (FORTY, 2)),
    (errors.NoTurn, powers_of_one, ([2], [0])), (errors.NoFit, powers_of_one, ([0], [])),
    (errors.TooMany, powers_of_one, (FORTY, FORTY)),
    (errors.NoNumber, kinds_of, (-1,)), (errors.TooMany, kinds_of, (13,)), (errors.NoKind, how_many_of, ([1, 2],)),
    (errors.NoNumber, how_many_have, (-1, 1)), (errors.NoNumber, how_many_have, (1, 0)), (errors.TooMany, how_many_have, (13, 0)),
    (errors.NoNumber, how_many_home, (-1, 1)), (errors.NoNumber, how_many_home, (1, 0)), (errors.TooMany, how_many_home, (13, 0)),
    (errors.NoTurn, show_turn, ([2],)), (errors.NoText, read_turn, ("(a)",)), (errors.NoText, read_turn, ("(1)",)),
    (errors.NoText, read_turn, ("(1 0)",)), (errors.NoText, read_turn, (None,)),
    (errors.NoRow, Desk().say, (None,)), (errors.NoRow, Desk().say, ("show",)), (errors.NoName, Desk().say, ("show a",)),
    (errors.NoText, Desk().say, ("turn a (1)",)),
]


class TestErrors(unittest.TestCase):
    def test_all_are_under_the_one(self):
        self.assertEqual(errors.TurnError.__bases__, (ValueError,))
        for name in NAMES:
            self.assertEqual(getattr(errors, name).__bases__, (errors.TurnError,), name)

    def test_none_is_under_another(self):
        classes = [getattr(errors, name) for name in NAMES]
        for one in classes:
            for other in classes:
                self.assertEqual(issubclass(one, other), one is other)

    def test_made_with_one_text(self):
        for name in ["TurnError"] + NAMES:
            for text in ["", "why not", "two\nrows"]:
                made = getattr(errors, name)(text)
                self.assertEqual(str(made), text)
                self.assertEqual(made.args, (text,))

    def test_raised_with_one_text(self):
        for kind, asked, handed in REFUSED:
            with self.subTest(asked=asked.__name__, handed=handed):
                with self.assertRaises(errors.TurnError) as caught:
                    asked(*handed)
                self.assertIs(type(caught.exception), kind)
                self.assertEqual(len(caught.exception.args), 1)
                self.assertIs(type(caught.exception.args[0]), str)
                self.assertEqual(str(caught.exception), caught.exception.args[0])


if __name__ == "__main__":
    unittest.main()
