"""Points 2, 12 and 13: whole numbers, names, and numbers written by figures."""

import unittest

from helping import Case, odd_things
from iceopened.words import is_name, is_whole, is_within, number_of

FORTY = int("9" * 40)
SIGNS = [chr(code) for code in range(32, 127)] + ["\n"]


class Wholes(Case):
    def test_numbers(self):
        for number in (0, 1, -1, 7, 10 ** 6, -(10 ** 6), 10 ** 12, FORTY, -FORTY):
            self.assertIs(is_whole(number), True, number)

    def test_truths_are_none(self):
        self.assertIs(is_whole(True), False)
        self.assertIs(is_whole(False), False)

    def test_other_things_are_none(self):
        for thing in odd_things() + ["", "0", "1", "a", "12", " 1", [0], (0,), {0: 0}]:
            self.assertIs(is_whole(thing), False, thing)


class Within(Case):
    def test_at_the_bounds(self):
        told = [is_within(number, 3, 6) for number in range(1, 9)]
        self.assertEqual(told, [False, False, True, True, True, True, False, False])
        for truth in told:
            self.assertIs(type(truth), bool)

    def test_one_number_alone(self):
        self.assertIs(is_within(5, 5, 5), True)
        self.assertIs(is_within(4, 5, 5), False)
        self.assertIs(is_within(6, 5, 5), False)

    def test_no_number_between_bounds_that_are_exchanged(self):
        for number in range(0, 8):
            self.assertIs(is_within(number, 5, 2), False)

    def test_below_nought(self):
        self.assertIs(is_within(-3, -3, -1), True)
        self.assertIs(is_within(-4, -3, -1), False)
        self.assertIs(is_within(-1, -3, -1), True)
        self.assertIs(is_within(0, -3, -1), False)
        self.assertIs(is_within(-1, 0, 10), False)

    def test_of_forty_figures(self):
        self.assertIs(is_within(FORTY, 0, FORTY), True)
        self.assertIs(is_within(FORTY, FORTY, FORTY), True)
        self.assertIs(is_within(FORTY, 0, FORTY - 1), False)
        self.assertIs(is_within(-FORTY, -FORTY, 0), True)
        self.assertIs(is_within(-FORTY, 1 - FORTY, 0), False)
        self.assertIs(is_within(5, -FORTY, FORTY), True)

    def test_truths_are_never_within(self):
        for low, high in ((0, 1), (0, 0), (1, 1), (-5, 5)):
            self.assertIs(is_within(True, low, high), False)
            self.assertIs(is_within(False, low, high), False)

    def test_other_things_are_never_within(self):
        for thing in odd_things() + ["", "0", "5", "a"]:
            self.assertIs(is_within(thing, -10, 10), False, thing)


class Names(Case):
    def test_names(self):
        for text in ("a", "z", "aa", "abcdefgh", "stuvwxyz", "ports", "aaaaaaaa"):
            self.assertIs(is_name(text), True, text)

    def test_each_letter_and_no_other_sign(self):
        for sign in SIGNS:
            small = sign in "abcdefghijklmnopqrstuvwxyz"
            for text in (sign, sign + "b", "b" + sign, "b" + sign + "b", "bbbbbbb" + sign):
                self.assertIs(is_name(text), small, repr(text))

    def test_lengths(self):
        told = [is_name("a" * many) for many in range(12)]
        self.assertEqual(told, [False] + [True] * 8 + [False] * 3)
        self.assertIs(is_name("a" * 2000), False)

    def test_texts_that_are_none(self):
        for text in ("", "aBc", "A", "a b", " a", "a ", "a\n", "\na", "\n", " ", "a1", "1", "a-b", "a_b", "abcdefgH"):
            self.assertIs(is_name(text), False, repr(text))

    def test_letters_of_other_alphabets(self):
        for text in ("\u00e9", "a\u00df", "\u03b1"):
            self.assertIs(is_name(text), False)

    def test_other_things_are_none(self):
        for thing in odd_things() + [0, 1, FORTY, ["abc"], ("a", "b"), {"abc": "abc"}]:
            self.assertIs(is_name(thing), False, thing)


class Numbers(Case):
    def test_nought(self):
        self.whole(number_of("0"), 0)
        self.assertIsNone(number_of("00"))
        self.assertIsNone(number_of("01"))
        self.assertIsNone(number_of("0" * 12))
        self.assertIsNone(number_of("012345678901"))

    def test_one_figure(self):
        for number in range(10):
            self.whole(number_of(str(number)), number)

    def test_many_figures(self):
        for word in ("10", "100", "907", "1000000", "123456789012", "999999999999", "100000000000"):
            self.whole(number_of(word), int(word))

    def test_lengths(self):
        for many in range(1, 13):
            self.whole(number_of("9" * many), 10 ** many - 1)
        for many in (13, 14, 40, 2000):
            self.assertIsNone(number_of("9" * many))

    def test_each_sign(self):
        for sign in SIGNS:
            figure = sign in "0123456789"
            for word in ("1" + sign, "1" + sign + "1"):
                self.assertEqual(number_of(word), int(word) if figure else None, repr(word))
            self.assertEqual(number_of(sign + "1"), int(sign + "1") if figure and sign != "0" else None)

    def test_words_that_write_none(self):
        words = ["", "+1", "-1", "-0", "+0", " 1", "1 ", "\n1", "1\n", " ", "\n", "1 2", "1_0", "1.0", "0x1", "1e3"]
        for word in words:
            self.assertIsNone(number_of(word), repr(word))

    def test_figures_of_other_alphabets(self):
        for word in ("\u0663", "\u00b2", "1\u0663"):
            self.assertIsNone(number_of(word))

    def test_what_is_no_text(self):
        for thing in odd_things() + [0, 1, 12, FORTY, ["1"], ("1",), {"1": 1}]:
            self.assertIsNone(number_of(thing), thing)


if __name__ == "__main__":
    unittest.main()
