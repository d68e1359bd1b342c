"""[23]: what the desk refuses, and which refusal goes first."""

import re
import unittest

import worked
from desks import DeskCase, desk_of, full_desk
from worked import FORTY_ONE_ALONE, NO_WRITINGS, SIGNS, no_texts, written
from turnroots.allroots import nth_root
from turnroots.desk import Desk
from turnroots.errors import NoFit, NoName, NoNumber, NoRoot, NoRow, NoText, TooMany


class TestNoRow(DeskCase):
    def test_numbers_right(self):
        desk = desk_of(a="(0 1)", b="(0)(1)")
        self.check_rows(desk, [
            ("many b 1", "1"), ("many b 9", "1"), ("many b 10", "2"), ("many b 999999999", "1"),
            ("many b 123456789", "1"), ("many b 100000000", "2"), ("power c a 0", "ok"), ("show c", "(0)(1)"),
            ("power c a -1", "ok"), ("show c", "(0 1)"), ("power c a 999999999", "ok"), ("show c", "(0 1)"),
            ("power c a -999999999", "ok"), ("show c", "(0 1)"), ("nth c b 2 0", "ok"), ("nth c b 100000000 1", "ok"),
            ("show c", "(0 1)"), ("root c a 999999999", "ok"),
        ])

    def test_no_numbers(self):
        desk = full_desk()
        for number in (
            "", "00", "01", "007", "0000000001", "1000000000", "9999999999", "1234567890", "1" * 30, "1" * 2000,
            "9" * 5000, "+1", "+0", "--1", "- 1", "1-", "-", "-0", "-00", "-01", "-1000000000", "-0000000001", "1.",
            "1.0", ".1", "1e3", "0x1", "1_0", "1,0", "a", "one", "K", "M", "1a", "a1", "1\n", "\n1", "1\t", "\t1",
            "1\r", "\u0661", "\u00b2", "\uff11", "1\u00a0", "(1)", "1\x00", "000000001", "00000000", "-+1", "+-1",
            "\u22121", "1 ", " 1", "1 1 1",
        ):
            self.check_refused(desk, NoRow, [
                f"power x a {number}", f"root x a {number}", f"nth x a {number} 0", f"nth x a 1 {number}",
                f"bars a {number}", f"many a {number}", f"soonest a {number}",
            ])

    def test_every_sign_in_a_number(self):
        for sign in SIGNS:
            if not sign.isdigit():
                desk = desk_of(a="(0 1)")
                for number in ("1" + sign, "1" + sign + "1", sign + sign + "1"):
                    self.check_refused(desk, NoRow, [f"power x a {number}", f"bars a {number}", f"nth x a 1 {number}"])
                self.check_refused(desk, NoRow, [f"bars a {sign}1", f"nth x a {sign}1 0", f"power x a {sign}"])
                if sign != "-":
                    self.check_refused(desk, NoRow, [f"power x a {sign}1"])

    def test_every_sign_in_a_name(self):
        for sign in SIGNS:
            desk = desk_of(a="(0 1)", b="()")
            for name in (sign, "a" + sign, sign + "a", "a" + sign + "a"):
                if re.fullmatch("[a-z]+", name):
                    self.check_rows(desk, [(f"turn {name} (0)", "ok"), (f"show {name}", "(0)"), (f"drop {name}", "ok")])
                else:
                    self.check_refused(desk, NoRow, [f"show {name}", f"drop {name}", f"back {name} b", f"back b {name}"])

    def test_signs_stand_ahead_of_k_alone(self):
        desk = full_desk()
        for number in ("-1", "-2", "-999999999", "-10"):
            self.assertEqual(desk.say("power x a " + number), "ok")
            self.check_refused(desk, NoRow, [
                f"root x a {number}", f"nth x a {number} 0", f"nth x a 1 {number}", f"bars a {number}",
                f"many a {number}", f"soonest a {number}",
            ])

    def test_blanks_and_line_ends(self):
        desk = full_desk()
        for row in (
            "behind x a b", "back x a", "power x a 2", "root x b 2", "nth x b 2 0", "drop a", "show a", "kind a",
            "home a", "bars a 2", "many a 2", "soonest a 2", "past a b", "alike a b", "names",
        ):
            self.check_refused(desk, NoRow, [ahead + row for ahead in (" ", "  ", "\n", "\t", "-")])
            self.check_refused(desk, NoRow, [row + behind for behind in (" ", "  ", "\n", "\t", "\r\n", " \n", "-")])
            for sign in ("  ", "\t", "\n", " \t", "\u00a0", ",", ""):
                if " " in row:
                    self.check_refused(desk, NoRow, [
                        row.replace(" ", sign), row.replace(" ", sign, 1), sign.join(row.rsplit(" ", 1)),
                    ])
            self.check_refused(desk, NoRow, [row + " a", row + " 1", row.upper(), row.title(), row + row, row[:3]])
        self.check_rows(desk, [("names", "a b c d e f g h longer")])

    def test_words_lacking_or_more(self):
        desk = full_desk()
        for row in (
            "behind x a b", "back x a", "power x a 2", "root x b 2", "nth x b 2 0", "drop a", "show a", "kind a",
            "home a", "bars a 2", "many a 2", "soonest a 2", "past a b", "alike a b",
        ):
            words = row.split(" ")
            for many in range(len(words)):
                self.check_refused(desk, NoRow, [" ".join(words[:many])])
            for at in range(len(words)):
                self.check_refused(desk, NoRow, [
                    " ".join(words[:at] + words[at + 1:]), " ".join(words[:at] + ["", ""] + words[at:]),
                ])

    def test_turn_without_its_blanks(self):
        desk = full_desk()
        self.check_refused(desk, NoRow, [
            "turn", "turn ", "turn a", "turn x", "turn (0)", "turn  (0)", " turn a (0)", "turn\ta (0)", "turn a(0)",
            "turna (0)", "turn A (0)", "turn a\t(0)", "turn a\n(0)", "\nturn a (0)", "turn  a (0)",
            "turn abcdefghi (0)", "Turn a (0)", "TURN a (0)", "turn\u00a0a (0)", "turn 1 (0)", "turn a\n",
            "turns a (0)", "tur a (0)",
        ])

    def test_other_words(self):
        self.check_refused(full_desk(), NoRow, [
            "", " ", "  ", "\n", "\t", "a", "ok", "none", "(0)", "help", "say a", "put a (0)", "show", "x" * 2000,
            " " * 2000, "\n" * 2000, "name", "namess", "names a", "names ", " names", "Names", "shows a", "sho a",
            "into text", "kept", "exit", "text a (0)", "into a", "name a", "number 1", "signed 1", "\ud800",
            "names\x00", "show a b", "home 1", "turn\x00a (0)", "root x b 2 0",
        ])

    def test_no_texts(self):
        desk = full_desk()
        self.check_refused(desk, NoRow, no_texts() + [
            ["names"], ("names",), b"names", b"show a", ["show", "a"], {"names": 1},
        ])
        self.check_rows(desk, [("show a", "(0 1)")])


class TestOtherRefusals(DeskCase):
    def test_no_name(self):
        desk = full_desk()
        self.check_refused(desk, NoName, [
            "behind x y a", "behind x a y", "behind x y y", "behind a y z", "behind x x a", "behind x a x", "back x y",
            "back x x", "back a y", "power x y 2", "power x x 0", "root x y 2", "root x x 1", "nth x y 2 0",
            "nth x x 1 0", "drop x", "show x", "kind x", "home x", "bars x 2", "many x 2", "soonest x 2", "past x a",
            "past a x", "past x x", "past x y", "alike x a", "alike a x", "alike x y", "show aa", "show names",
            "show abcdefgh", "show long", "show longest",
        ])
        for row in ("show a", "drop a", "kind a", "home a", "back a a", "power a a 0", "past a a"):
            self.check_refused(Desk(), NoName, [row])

    def test_no_text(self):
        desk = full_desk()
        for text in NO_WRITINGS + [FORTY_ONE_ALONE]:
            self.check_refused(desk, NoText, ["turn a " + text, "turn x " + text])
        self.check_refused(desk, NoText, [
            "turn x ", "turn x  ()", "turn x () ", "turn x ()\n", "turn x  ", "turn x \n", "turn a a", "turn a b c",
        ])

    def test_no_fit(self):
        desk = full_desk()
        self.check_refused(desk, NoFit, [
            "behind x a c", "behind x c a", "behind a a c", "behind x e a", "behind x a e", "behind x f a", "past a c",
            "past e a", "alike a c", "alike f a", "alike e f", "past f a", "behind f e f",
        ])

    def test_no_number(self):
        desk = full_desk()
        self.check_refused(desk, NoNumber, [
            "root x a 0", "root x b 0", "root x e 0", "root a a 0", "nth x a 0 0", "nth x e 0 0", "bars a 0",
            "bars e 0", "many a 0", "many e 0", "soonest a 0", "soonest e 0", "nth x b 2 2", "nth x e 1 1",
            "nth x a 2 0", "nth a a 1 1", "nth x g 1 1",
        ])

    def test_no_root(self):
        desk = full_desk()
        self.check_refused(desk, NoRoot, [
            "root x a 2", "root a a 2", "root x c 3", "root x d 2", "root x g 2", "root x h 4", "root x a 999999998",
        ])

    def test_too_many(self):
        desk = full_desk()
        self.check_refused(desk, TooMany, [
            "nth x f 2 0", "nth f f 2 0", "nth x longer 2 0", "soonest f 2", "soonest g 2", "soonest longer 1",
            "soonest g 3",
        ])
        self.check_rows(desk, [("many f 1", "1"), ("nth x f 1 0", "ok"), ("root x f 2", "ok")])

    def test_two_thousand(self):
        for lengths, m in worked.TWO_THOUSAND_ROOTS[:2]:
            p = worked.turn_of_lengths(lengths, 4)
            desk = desk_of(p=written(p))
            self.check_rows(desk, [
                (f"many p {m}", "2000"), (f"nth r p {m} 1999", "ok"), ("show r", written(nth_root(p, m, 1999))),
            ])
            self.check_refused(desk, NoNumber, [f"nth x p {m} 2000"])
        for lengths, m, many in worked.MORE_ROOTS[:2]:
            desk = desk_of(p=written(worked.turn_of_lengths(lengths, 4)))
            self.check_rows(desk, [(f"many p {m}", str(many))])
            self.check_refused(desk, TooMany, [f"nth x p {m} 0", f"nth x p {m} {many}"])


class TestOrder(DeskCase):
    """[23]: each pair of refusals that may be due at once."""

    def test_no_row_ahead_of_no_name(self):
        self.check_refused(full_desk(), NoRow, [
            "show x ", "power a x 01", "power A x 1", "behind x y Z", "behind x Y z", "past x Y", "alike X y",
            "bars x -1", "many x +1", "soonest x 1000000000", "root x y 00", "nth x y 1 01", "nth x y 01 1", "drop x\n",
            "back x y z", "kind x 1", "home  x",
        ])

    def test_no_row_ahead_of_no_text(self):
        self.check_refused(full_desk(), NoRow, [
            "turn A (0", "turn abcdefghi x", "turn  (0", "turn 1 ", "turn (0 ", "turn a1 (1)", "turn A ",
        ])

    def test_no_row_ahead_of_no_fit(self):
        self.check_refused(full_desk(), NoRow, [
            "behind A a c", "behind x a c ", "past a c ", "alike a c\n", "past  a c", "behind x1 a c",
        ])

    def test_no_row_ahead_of_no_number(self):
        self.check_refused(full_desk(), NoRow, [
            "root A a 0", "root x a 00", "root x a -1", "root x a -0", "nth X a 0 0", "nth x a 0 01", "nth x a 0 -1",
            "nth x b 2 02", "bars a 00", "many a 0 ", "soonest a -1", "nth x b 2 1000000000",
        ])

    def test_no_row_ahead_of_no_root(self):
        self.check_refused(full_desk(), NoRow, [
            "root A a 2", "root x a 02", "root x a 2 ", "root abcdefghi c 3", "root x g +2",
        ])

    def test_no_row_ahead_of_too_many(self):
        self.check_refused(full_desk(), NoRow, [
            "nth X f 2 0", "nth x f 2 00", "nth x f 02 0", "soonest f 02", "soonest f 2 ", "soonest g -1",
        ])

    def test_no_name_ahead_of_no_number(self):
        self.check_refused(full_desk(), NoName, [
            "root x y 0", "root a y 0", "nth x y 0 0", "nth a y 0 999999999", "bars x 0", "many x 0", "soonest x 0",
            "nth x x 1 1",
        ])

    def test_no_name_of_either_of_two(self):
        # With one that stands beside it, of however many things.
        for name in "acefg":
            self.check_refused(full_desk(), NoName, [
                f"behind x y {name}", f"behind x {name} y", f"past y {name}", f"past {name} y", f"alike y {name}",
                f"alike {name} y",
            ])

    def test_no_number_ahead_of_no_root(self):
        self.check_refused(full_desk(), NoNumber, [
            "root x a 0", "root x c 0", "root x g 0", "root x h 0", "root g g 0",
        ])

    def test_no_number_of_m_ahead_of_too_many(self):
        self.check_refused(full_desk(), NoNumber, [
            "nth x f 0 0", "nth x f 0 999999999", "soonest f 0", "soonest g 0", "soonest longer 0",
        ])

    def test_too_many_ahead_of_no_number_of_n(self):
        self.check_refused(full_desk(), TooMany, [
            "nth x f 2 999999999", "nth x longer 2 999999999", "nth f f 6 999999999",
        ])

    def test_too_many_things_ahead_of_none(self):
        # Of more than sixteen things nothing is told of the soonest, where there is no root either.
        self.check_refused(full_desk(), TooMany, ["soonest g 2", "soonest g 40"])


if __name__ == "__main__":
    unittest.main()
