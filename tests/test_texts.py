"""[21]: rearrangements written, and read back; each has one writing."""

import itertools
import random
import unittest

import worked
from turnroots.errors import NoText, NoTurn
from turnroots.texts import read_turn, show_turn


class TestShowTurn(unittest.TestCase):
    def test_the_document_s_own(self):
        self.assertEqual(show_turn([3, 1, 4, 0, 2]), "(0 3)(1)(2 4)")
        self.assertEqual(show_turn([]), "()")

    def test_all_of_few_things(self):
        for n in range(7):
            texts = [show_turn(p) for p in worked.all_turns(n)]
            self.assertEqual(texts, [worked.written(p) for p in worked.all_turns(n)])
            self.assertEqual(len(set(texts)), len(texts))

    def test_many_things(self):
        for p in worked.many_turns():
            told = show_turn(p)
            self.assertIs(type(told), str)
            self.assertEqual(told, worked.written(p))

    def test_forty_things(self):
        self.assertEqual(show_turn(list(range(40))), worked.FORTY_ALONE)
        self.assertEqual(show_turn(list(range(1, 40)) + [0]), worked.FORTY_ROUND)

    def test_no_turn(self):
        for thing in worked.no_turns() + [worked.FORTY_ALONE, ["(0)"], "(0 1)"]:
            with self.assertRaises(NoTurn):
                show_turn(thing)


class TestReadTurn(unittest.TestCase):
    def test_the_document_s_own(self):
        self.assertEqual(read_turn("(0 3)(1)(2 4)"), [3, 1, 4, 0, 2])
        self.assertEqual(read_turn("()"), [])

    def test_there_and_back(self):
        for n in range(7):
            for p in worked.all_turns(n):
                self.assertEqual(read_turn(worked.written(p)), p)
                self.assertEqual(read_turn(show_turn(p)), p)

    def test_many_things(self):
        for p in worked.many_turns():
            told = read_turn(worked.written(p))
            self.assertIs(type(told), list)
            self.assertTrue(all(type(thing) is int for thing in told))
            self.assertEqual(told, p)

    def test_forty_things(self):
        self.assertEqual(read_turn(worked.FORTY_ALONE), list(range(40)))
        self.assertEqual(read_turn(worked.FORTY_ROUND), list(range(1, 40)) + [0])
        dealer = random.Random(21)
        for _ in range(50):
            p = list(range(40))
            dealer.shuffle(p)
            self.assertEqual(read_turn(worked.written(p)), p)
            self.assertEqual(show_turn(read_turn(worked.written(p))), worked.written(p))

    def test_told_is_new(self):
        text = "(0 3)(1)(2 4)"
        told = read_turn(text)
        told.clear()
        self.assertEqual(read_turn(text), [3, 1, 4, 0, 2])
        nothing = read_turn("()")
        nothing.append(0)
        self.assertEqual(read_turn("()"), [])


class TestNoText(unittest.TestCase):
    def check_refused(self, thing):
        with self.assertRaises(NoText):
            read_turn(thing)

    def test_texts_that_write_none(self):
        for text in worked.NO_WRITINGS:
            with self.subTest(text=text[:60]):
                self.check_refused(text)

    def test_no_texts(self):
        for thing in worked.no_texts():
            self.check_refused(thing)

    def test_every_short_text(self):
        # Of all texts of these signs, at most six, just the writings are read.
        right = {worked.written(p): p for n in range(4) for p in worked.all_turns(n)}
        for many in range(7):
            for signs in itertools.product("() 012", repeat=many):
                text = "".join(signs)
                if text in right:
                    self.assertEqual(read_turn(text), right[text])
                else:
                    self.check_refused(text)

    def test_every_sign_put_in(self):
        text = "(0 3)(1)(2 4)"
        for sign in worked.SIGNS:
            for at in range(len(text) + 1):
                self.check_refused(text[:at] + sign + text[at:])
            for other in (sign, "(" + sign + ")", "(0" + sign + ")", "(0)" + sign):
                if other != "(0)":
                    self.check_refused(other)

    def test_one_sign_changed(self):
        right = {worked.written(p): p for n in range(6) for p in worked.all_turns(n)}
        for text in [text for text in right if len(text) in (2, 3, 5, 9, 11, 13)][::9] + ["(0 3)(1)(2 4)", "()", "(0)"]:
            for other in self.changed(text, "() 0123459\n-"):
                if other in right:
                    self.assertEqual(read_turn(other), right[other])
                else:
                    self.check_refused(other)

    def test_one_sign_changed_of_forty(self):
        dealer = random.Random(5)
        p = list(range(40))
        dealer.shuffle(p)
        mixed = worked.turn_of_lengths([4] * 4 + [2] * 6 + [1] * 12, 8)
        for q in (p, list(range(40)), list(range(1, 40)) + [0], mixed):
            for other in self.changed(worked.written(q), "() 019"):
                try:
                    told = read_turn(other)
                except NoText:
                    continue
                # What is read has this writing and no other.
                self.assertEqual(worked.written(told), other)

    def changed(self, text, signs):
        """All texts with one sign left out, put in, or changed, and with two that stand side by side swapped."""
        told = set()
        for at in range(len(text) + 1):
            told.add(text[:at] + text[at + 1:])
            told.add(text[:at] + text[at + 1:at + 2] + text[at:at + 1] + text[at + 2:])
            for sign in signs:
                told.add(text[:at] + sign + text[at:])
                told.add(text[:at] + sign + text[at + 1:])
        return sorted(told)

    def test_rounds_in_every_order(self):
        # Of all ways to write a rearrangement's rounds, begun anywhere and in any order, one is its writing.
        for p in worked.all_turns(4) + worked.all_turns(5)[::7]:
            read = []
            for order in itertools.permutations(worked.rounds(p)):
                for begins in itertools.product(*[range(len(ring)) for ring in order]):
                    rings = [ring[begin:] + ring[:begin] for ring, begin in zip(order, begins)]
                    text = "".join("(" + " ".join(map(str, ring)) + ")" for ring in rings)
                    if text == worked.written(p):
                        read.append(read_turn(text))
                    else:
                        self.check_refused(text)
            self.assertEqual(read, [p])


if __name__ == "__main__":
    unittest.main()
