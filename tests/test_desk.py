"""[22], and [2] and [4] as far as they speak of the desk: its rows, names, and what each row answers."""

import random
import unittest

import worked
from desks import WORDS, DeskCase, Expected, all_told, desk_of, full_desk
from worked import FORTY_ALONE, FORTY_ROUND, NO_WRITINGS, written
from turnroots.allroots import all_roots, how_many_roots
from turnroots.desk import Desk
from turnroots.errors import NoFit, NoName, NoNumber, NoRoot, NoRow, NoText, TooMany, TurnError
from turnroots.hasroot import root_told
from turnroots.rounds import home_of, kind_of
from turnroots.soonest import soonest_root
from turnroots.texts import read_turn, show_turn


class TestRows(DeskCase):
    def test_turn_and_show(self):
        self.check_rows(Desk(), [
            ("turn a (0 3)(1)(2 4)", "ok"), ("show a", "(0 3)(1)(2 4)"), ("turn a (0 1)", "ok"), ("show a", "(0 1)"),
            ("turn b ()", "ok"), ("show b", "()"), ("turn c (0)", "ok"), ("show c", "(0)"), ("show a", "(0 1)"),
        ])
        for p in worked.many_turns() + worked.all_turns(4):
            self.check_rows(Desk(), [("turn p " + written(p), "ok"), ("show p", written(p))])

    def test_behind(self):
        desk = desk_of(p="(0 1)(2)", q="(0)(1 2)", r="(0 1 2)")
        self.check_rows(desk, [
            ("behind x p q", "ok"), ("show x", "(0 1 2)"), ("behind x q p", "ok"), ("show x", "(0 2 1)"),
            ("behind p p q", "ok"), ("show p", "(0 1 2)"), ("behind q p q", "ok"), ("show q", "(0 1)(2)"),
            ("behind r r r", "ok"), ("show r", "(0 2 1)"), ("show p", "(0 1 2)"),
        ])
        for p in worked.all_turns(4)[::3]:
            for q in worked.all_turns(4)[::2]:
                self.check_rows(desk_of(p=written(p), q=written(q)), [
                    ("behind r p q", "ok"), ("show r", written(worked.behind(p, q))), ("show p", written(p)),
                    ("show q", written(q)),
                ])

    def test_back(self):
        self.check_rows(desk_of(p="(0 1 2)"), [
            ("back q p", "ok"), ("show q", "(0 2 1)"), ("show p", "(0 1 2)"), ("back p p", "ok"), ("show p", "(0 2 1)"),
        ])

    def test_power(self):
        for p in worked.all_turns(4) + worked.many_turns()[::5]:
            desk = desk_of(p=written(p))
            for k in (0, 1, 2, 3, 5, 12, 999999999, 100000000, -1, -2, -7, -999999999):
                power = written(worked.power_by_doubling(p, k))
                self.check_rows(desk, [("power q p " + str(k), "ok"), ("show q", power), ("show p", written(p))])
        self.check_rows(desk_of(p="(0 1 2)"), [
            ("power p p 2", "ok"), ("show p", "(0 2 1)"), ("power p p -2", "ok"), ("show p", "(0 2 1)"),
        ])

    def test_root(self):
        for p in worked.all_turns(5)[::3] + worked.many_turns()[::3]:
            desk = desk_of(p=written(p))
            for m in (1, 2, 3, 4, 6, 12, 999999999):
                told = root_told(p, m)
                if told[0] == "root":
                    self.check_rows(desk, [
                        ("root r p " + str(m), "ok"), ("show r", written(told[1])), ("show p", written(p)),
                    ])
                    root = read_turn(desk.say("show r"))
                    self.assertEqual(worked.power_by_doubling(root, m), p)
                else:
                    self.check_refused(desk, NoRoot, [
                        "root r p " + str(m), "root p p " + str(m), "root new p " + str(m),
                    ])
        self.check_rows(desk_of(p="(0 1 2)"), [
            ("root p p 2", "ok"), ("show p", "(0 2 1)"), ("root p p 2", "ok"), ("show p", "(0 1 2)"),
        ])

    def test_nth(self):
        for p in worked.all_turns(4):
            for m in (1, 2, 3, 6, 999999999):
                roots = worked.roots_by_going_through(worked.all_turns(4), m).get(tuple(p), [])
                desk = desk_of(p=written(p))
                for k, root in enumerate(roots):
                    self.check_rows(desk, [
                        (f"nth r p {m} {k}", "ok"), ("show r", written(root)), ("show p", written(p)),
                    ])
                self.check_refused(desk, NoNumber, [f"nth r p {m} {len(roots)}", f"nth p p {m} 999999999"])
        self.check_rows(desk_of(p="(0)(1)(2)"), [("nth p p 2 3", "ok"), ("show p", "(0 2)(1)")])

    def test_drop(self):
        desk = desk_of(a="(0)", ab="(0 1)", b="()")
        self.check_rows(desk, [("drop a", "ok"), ("names", "ab b"), ("show ab", "(0 1)")])
        self.check_refused(desk, NoName, ["drop a", "show a", "drop abc"])
        self.check_rows(desk, [
            ("turn a (0 1 2)", "ok"), ("show a", "(0 1 2)"), ("drop a", "ok"), ("drop b", "ok"), ("drop ab", "ok"),
        ])
        self.check_rows(desk, [("names", "none")])

    def test_kind(self):
        self.check_rows(desk_of(a="(0 3)(1)(2 4)", b="()", c="(0)", d=FORTY_ALONE, e=FORTY_ROUND), [
            ("kind a", "2 2 1"), ("kind b", "none"), ("kind c", "1"), ("kind d", " ".join(["1"] * 40)),
            ("kind e", "40"),
        ])

    def test_home(self):
        self.check_rows(desk_of(a="(0 3)(1)(2 4)", b="()", c="(0)", d="(0 1)(2 3 4)", e=FORTY_ROUND, f=FORTY_ALONE), [
            ("home a", "2"), ("home b", "1"), ("home c", "1"), ("home d", "6"), ("home e", "40"), ("home f", "1"),
        ])

    def test_bars(self):
        desk = desk_of(a="(0 1)", b="()", c="(0 1)(2 3)", d="(0 1 2 3)(4 5)", e="(0 1 2 3)(4 5)(6 7)", f=FORTY_ROUND)
        self.check_rows(desk, [
            ("bars a 2", "2 1 2"), ("bars a 3", "none"), ("bars b 2", "none"), ("bars c 2", "none"),
            ("bars c 4", "2 2 4"), ("bars d 2", "2 1 2"), ("bars e 2", "4 1 2"), ("bars f 100000000", "40 1 100000000"),
            ("bars f 999999999", "none"), ("bars a 1", "none"), ("bars a 999999998", "2 1 2"),
        ])

    def test_many(self):
        desk = desk_of(a="(0)(1)(2)", b="()", c="(0 1)", d=FORTY_ALONE, e="(0 1 2 3)(4 5 6 7)")
        self.check_rows(desk, [
            ("many a 2", "4"), ("many a 1", "1"), ("many b 5", "1"), ("many c 2", "0"), ("many e 6", "4"),
            ("many d 720720", str(worked.roots_counted(list(range(40)), 720720))), ("many d 1", "1"),
        ])

    def test_soonest(self):
        sixteen = "".join("(" + str(i) + ")" for i in range(16))
        desk = desk_of(a="(0 1 2)", b="()", c="(0 1)", d="(0 1)(2 3)", e=sixteen, f=sixteen + "(16)")
        self.check_rows(desk, [
            ("soonest a 2", "3"), ("soonest b 7", "1"), ("soonest c 2", "none"), ("soonest d 2", "4"),
            ("soonest e 999999999", "1"),
        ])
        self.check_refused(desk, TooMany, ["soonest f 2", "soonest f 1"])

    def test_past(self):
        desk = desk_of(a="(0 1 2)", b="(0 2 1)", c="(0 1)(2)", d="()", e="()", f="(0)")
        self.check_rows(desk, [
            ("past a b", "yes"), ("past b a", "yes"), ("past a c", "no"), ("past c a", "no"), ("past d e", "yes"),
            ("past a a", "yes"),
        ])
        self.check_refused(desk, NoFit, ["past a d", "past d a", "past f d", "past a f"])

    def test_alike(self):
        desk = desk_of(a="(0 1 2)", b="(0 2 1)", c="(0 1)(2)", d="()", e="()", f="(0)", g="(0)(1 2)", h="(0)(1)")
        self.check_rows(desk, [
            ("alike a b", "yes"), ("alike a c", "no"), ("alike c g", "yes"), ("alike d e", "yes"), ("alike a a", "yes"),
        ])
        self.check_refused(desk, NoFit, ["alike a d", "alike d a", "alike f d", "alike f h", "alike h c"])

    def test_names(self):
        desk = Desk()
        self.check_rows(desk, [
            ("names", "none"), ("turn b (0)", "ok"), ("names", "b"), ("turn ab ()", "ok"), ("turn a ()", "ok"),
            ("turn aa ()", "ok"), ("turn zzzzzzzz (0 1)", "ok"), ("turn z ()", "ok"), ("names", "a aa ab b z zzzzzzzz"),
            ("turn a (0)", "ok"), ("names", "a aa ab b z zzzzzzzz"), ("behind c a b", "ok"),
            ("names", "a aa ab b c z zzzzzzzz"),
        ])
        self.assertEqual(desk.names(), ["a", "aa", "ab", "b", "c", "z", "zzzzzzzz"])


class TestNames(DeskCase):
    def test_one_and_eight_letters(self):
        for name in ("a", "z", "q", "abcdefgh", "zzzzzzzz", "aaaaaaaa", "none", "ok", "yes", "no", "x"):
            desk = Desk()
            self.check_rows(desk, [
                (f"turn {name} (0 1 2)", "ok"), (f"show {name}", "(0 1 2)"), (f"behind {name} {name} {name}", "ok"),
                (f"back {name} {name}", "ok"), (f"power {name} {name} 4", "ok"), (f"root {name} {name} 2", "ok"),
                (f"nth {name} {name} 2 0", "ok"), (f"kind {name}", "3"), (f"home {name}", "3"),
                (f"bars {name} 3", "3 1 3"), (f"many {name} 2", "1"), (f"soonest {name} 2", "3"),
                (f"past {name} {name}", "yes"), (f"alike {name} {name}", "yes"), ("names", name),
                (f"show {name}", "(0 1 2)"), (f"drop {name}", "ok"), ("names", "none"),
            ])

    def test_no_names(self):
        desk = full_desk()
        for name in (
            "", "abcdefghi", "aaaaaaaaa", "x" * 2000, "A", "aB", "a1", "1", "1a", "a_", "_", "a-b", "a.", "(a)", "-",
            "0", "a\t", "\ta", "a\n", "\na", "a\r", "\u00e9", "\u00e4b", "\u0430", "\u00df", "\u00aa", "a\u00a0", "~",
            "NAME", "a,b", "\ud800", "a\x00",
        ):
            self.check_refused(desk, NoRow, [
                f"turn {name} (0)", f"behind {name} a b", f"behind a {name} b", f"behind a b {name}", f"back {name} a",
                f"back a {name}", f"power {name} a 2", f"power a {name} 2", f"root {name} a 1", f"root a {name} 1",
                f"nth {name} a 1 0", f"nth a {name} 1 0", f"drop {name}", f"show {name}", f"kind {name}",
                f"home {name}", f"bars {name} 1", f"many {name} 1", f"soonest {name} 1", f"past {name} a",
                f"past a {name}", f"alike {name} a", f"alike a {name}",
            ])

    def test_words_of_the_desk_s_own(self):
        desk = Desk()
        for word in WORDS:
            self.check_rows(desk, [
                (f"turn {word} (0 1 2)", "ok"), (f"show {word}", "(0 1 2)"), (f"power {word} {word} 2", "ok"),
            ])
        self.check_rows(desk, [
            ("names", " ".join(sorted(WORDS))), ("behind turn turn turn", "ok"), ("show turn", "(0 1 2)"),
        ])
        self.assertEqual(desk.names(), sorted(WORDS))
        self.check_rows(desk, [
            ("drop names", "ok"), ("drop drop", "ok"), ("show show", "(0 2 1)"), ("past past past", "yes"),
        ])
        self.check_rows(desk, [
            ("names", " ".join(sorted(set(WORDS) - {"names", "drop"}))), ("turn turn (0)", "ok"), ("show turn", "(0)"),
        ])
        # A row's first word is no name, whatever stands by that name.
        self.check_refused(desk, NoRow, [word for word in WORDS if word != "names"])
        self.check_refused(desk, NoName, ["show names", "drop drop", "kind drop"])

    def test_beginnings_of_one_another(self):
        desk = desk_of(a="(0)", ab="(0 1)", abc="(0 1 2)", abcdefgh="(0 1 2 3)", abcdefg="()")
        self.check_rows(desk, [
            ("show a", "(0)"), ("show ab", "(0 1)"), ("show abc", "(0 1 2)"), ("show abcdefgh", "(0 1 2 3)"),
            ("show abcdefg", "()"), ("names", "a ab abc abcdefg abcdefgh"), ("drop ab", "ok"), ("show a", "(0)"),
            ("show abc", "(0 1 2)"), ("names", "a abc abcdefg abcdefgh"),
        ])
        self.check_refused(desk, NoName, [
            "show ab", "show abcd", "show b", "drop ab", "show abcdef", "show bc", "show aa",
        ])


class TestWhole(DeskCase):
    def test_refused_changes_nothing(self):
        desk = full_desk()
        before = all_told(desk)
        refused = [
            ("turn a (1)", NoText), ("behind a a c", NoFit), ("back a y", NoName), ("power a a 01", NoRow),
            ("root a a 2", NoRoot), ("root a a 0", NoNumber), ("nth a b 2 2", NoNumber), ("nth a f 2 0", TooMany),
            ("drop y", NoName), ("drop a ", NoRow), ("turn new (1)", NoText), ("behind new a c", NoFit),
            ("back new y", NoName), ("root new a 2", NoRoot), ("nth new f 2 0", TooMany), ("nth new b 2 2", NoNumber),
            ("power new y 2", NoName), ("soonest f 2", TooMany),
        ]
        for row, kind in refused * 2:
            self.check_refused(desk, kind, [row])
            self.check_refused(desk, NoName, ["show new"])
        self.assertEqual(all_told(desk), before)

    def test_what_was_made_stays_as_it_was(self):
        desk = desk_of(a="(0 1 2)", b="(0 2 1)")
        self.check_rows(desk, [
            ("power c a 1", "ok"), ("back d a", "ok"), ("root e a 1", "ok"), ("nth f a 1 0", "ok"),
            ("behind g a b", "ok"), ("turn a (0 1)", "ok"), ("drop b", "ok"), ("show c", "(0 1 2)"),
            ("show d", "(0 2 1)"), ("show e", "(0 1 2)"), ("show f", "(0 1 2)"), ("show g", "(0)(1)(2)"),
            ("power a a 0", "ok"), ("show c", "(0 1 2)"), ("back c c", "ok"), ("show e", "(0 1 2)"),
            ("show f", "(0 1 2)"), ("names", "a c d e f g"),
        ])

    def test_names_as_a_list(self):
        desk = Desk()
        self.assertEqual(desk.names(), [])
        self.assertIs(type(desk.names()), list)
        desk.names().append("spoilt")
        self.assertEqual(desk.names(), [])
        self.check_rows(desk, [("names", "none"), ("turn b (0)", "ok"), ("turn a ()", "ok")])
        told = desk.names()
        self.assertEqual(told, ["a", "b"])
        self.assertIs(type(told), list)
        self.assertIsNot(told, desk.names())
        told.append("c")
        told[0] = "z"
        self.assertEqual(desk.names(), ["a", "b"])
        self.check_rows(desk, [("names", "a b")])
        self.check_refused(desk, NoName, ["show c", "show z"])
        told.clear()
        self.check_rows(desk, [("show a", "()"), ("show b", "(0)"), ("drop a", "ok"), ("names", "b")])
        self.assertEqual(told, [])
        self.assertEqual(desk.names(), ["b"])

    def test_two_desks(self):
        one = Desk()
        other = Desk()
        self.check_rows(one, [("turn a (0 1)", "ok"), ("turn b (0)", "ok")])
        self.check_rows(other, [("names", "none")])
        self.assertEqual(other.names(), [])
        self.check_refused(other, NoName, ["show a", "drop b"])
        self.check_rows(other, [("turn a (0 1 2)", "ok"), ("turn c ()", "ok"), ("power a a 2", "ok")])
        self.check_rows(one, [("show a", "(0 1)"), ("names", "a b"), ("drop a", "ok")])
        self.check_rows(other, [("show a", "(0 2 1)"), ("names", "a c"), ("drop c", "ok")])
        self.check_refused(one, NoName, ["show a", "show c"])
        self.assertEqual((one.names(), other.names(), Desk().names()), (["b"], ["a"], []))

    def test_the_same_asked_again(self):
        desk = full_desk()
        rows = ["names", "show a", "kind h", "home g", "bars a 2", "many f 6", "soonest h 2", "past a b", "alike a b"]
        told = [desk.say(row) for row in rows]
        self.check_refused(desk, NoRow, ["nothing", None])
        self.assertEqual([desk.say(row) for row in rows], told)
        self.assertEqual([full_desk().say(row) for row in rows], told)

    def test_one_number_however_told(self):
        for p in worked.many_turns():
            desk = desk_of(p=written(p))
            self.check_rows(desk, [("show p", show_turn(p)), ("home p", str(home_of(p)))])
            self.check_rows(desk, [("kind p", " ".join(str(length) for length in kind_of(p)) or "none")])
            for m in (1, 2, 6, 30, 999999999):
                many = how_many_roots(p, m)
                self.assertEqual(int(desk.say(f"many p {m}")), many)
                told = root_told(p, m)
                self.check_rows(desk, [
                    (f"bars p {m}", "none" if told[0] == "root" else " ".join(str(n) for n in told[1:])),
                ])
                self.assertEqual(many == 0, told[0] == "bars")
                if many <= 60:
                    self.assertEqual(many, len(all_roots(p, m)))
                    self.check_refused(desk, NoNumber, [f"nth x p {m} {many}"])
                if 0 < many <= 60:
                    self.check_rows(desk, [
                        (f"nth last p {m} {many - 1}", "ok"), ("show last", show_turn(all_roots(p, m)[-1])),
                    ])
                if len(p) <= 16:
                    soonest = soonest_root(p, m)
                    self.check_rows(desk, [(f"soonest p {m}", "none" if soonest is None else str(soonest[0]))])

    def test_told_may_be_handed_in(self):
        desk = full_desk()
        for name in desk.names():
            text = desk.say("show " + name)
            self.assertEqual(show_turn(read_turn(text)), text)
            self.check_rows(desk, [("turn copy " + text, "ok"), ("show copy", text), ("alike copy " + name, "yes")])


class TestAgainstTheDocument(unittest.TestCase):
    NAMES = ["a", "b", "ab", "abcdefgh", "names", "turn", "c", "zz"]
    # A name, a number, or one that may be below 0.
    PLACES = {
        "behind": "nnn", "back": "nn", "power": "nnk", "root": "nnm", "nth": "nnmm", "drop": "n", "show": "n",
        "kind": "n", "home": "n", "bars": "nm", "many": "nm", "soonest": "nm", "past": "nn", "alike": "nn", "names": "",
    }
    NUMBERS = ["0", "1", "2", "3", "4", "6", "12", "30"]
    ODD = ["", " ", "abcdefghi", "A", "01", "-0", "-1", "-3", "1000000000", "a\n", "+1", "(0)", "none", "00", "a1"]

    def row(self, dealer):
        word = dealer.choice(WORDS + ["turn"] * 6)
        if word == "turn":
            n = dealer.choice([0, 1, 2, 3, 3, 4, 4, 5, 6])
            text = written(dealer.sample(range(n), n))
            if dealer.random() < 0.1:
                text = dealer.choice(NO_WRITINGS)
            return "turn " + dealer.choice(self.NAMES) + " " + text
        parts = [word]
        for place in self.PLACES[word]:
            parts.append(dealer.choice(self.NAMES if place == "n" else self.NUMBERS))
            if place == "k" and dealer.random() < 0.4 and parts[-1] != "0":
                parts[-1] = "-" + parts[-1]
        if dealer.random() < 0.08:
            parts[dealer.randrange(len(parts))] = dealer.choice(self.ODD)
        if dealer.random() < 0.03:
            parts.insert(dealer.randrange(len(parts) + 1), dealer.choice(self.ODD + self.NAMES))
        return " ".join(parts)

    def test_many_rows(self):
        met = set()
        for seed in range(60):
            dealer = random.Random(seed)
            desk = Desk()
            expected = Expected()
            for _ in range(150):
                row = self.row(dealer)
                due = expected.say(row)
                if isinstance(due, str):
                    self.assertEqual(desk.say(row), due, row)
                else:
                    with self.assertRaises(TurnError) as caught:
                        desk.say(row)
                    self.assertIs(type(caught.exception), due, row)
                met.add((row.split(" ")[0], due if isinstance(due, type) else None))
                self.assertEqual(desk.names(), sorted(expected.turns))
            for name, p in expected.turns.items():
                self.assertEqual(desk.say("show " + name), written(p))
        # The rows that were dealt met each word, answered and refused.
        for word in WORDS:
            self.assertIn((word, None), met)
            self.assertIn((word, NoRow), met)
            if word not in ("turn", "names"):
                self.assertIn((word, NoName), met)
        for word, kind in (
            ("turn", NoText), ("behind", NoFit), ("past", NoFit), ("alike", NoFit), ("root", NoRoot),
            ("root", NoNumber), ("nth", NoNumber), ("bars", NoNumber), ("many", NoNumber), ("soonest", NoNumber),
        ):
            self.assertIn((word, kind), met)


if __name__ == "__main__":
    unittest.main()
