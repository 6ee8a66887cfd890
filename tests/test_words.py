"""Point 10, and names and whole numbers of point 2."""

import itertools
import re
import unittest

from shelvesmoved.words import is_name, is_whole, whole_in
from tests.things import ODD_NUMBERS, ODD_THINGS, THIRTY_FIGURES, Case


class IsWholeTest(Case):
    def test_both_bounds_are_counted(self):
        for low, high in [(0, 0), (0, 9), (1, 9), (-3, 3), (5, 5), (-9, -4)]:
            for number in range(-12, 13):
                inside = number in range(low, high + 1)
                self.assertIs(is_whole(number, low, high), inside, (number, low, high))

    def test_low_above_high(self):
        for number in range(-2, 9):
            self.assertIs(is_whole(number, 5, 2), False)

    def test_truths_are_none(self):
        for truth in [True, False]:
            for low, high in [(0, 1), (-9, 9), (0, 0), (1, 1)]:
                self.assertIs(is_whole(truth, low, high), False)

    def test_thirty_figures(self):
        most = THIRTY_FIGURES
        self.assertIs(is_whole(most, 0, most), True)
        self.assertIs(is_whole(most, most, most), True)
        self.assertIs(is_whole(most, 0, most - 1), False)
        self.assertIs(is_whole(-most, -most, 0), True)
        self.assertIs(is_whole(-most, 1 - most, 0), False)
        self.assertIs(is_whole(most, 0, 9), False)

    def test_other_kinds(self):
        for thing in ODD_THINGS + ["0", "7", "a", ("a", "a", 1, 1)]:
            self.assertIs(is_whole(thing, -THIRTY_FIGURES, THIRTY_FIGURES), False, repr(thing))


class IsNameTest(Case):
    def test_names(self):
        for name in ["a", "z", "ab", "abcdefgh", "zzzzzzzz", "shelf", "none"]:
            self.assertIs(is_name(name), True, name)

    def test_each_small_letter(self):
        for letter in "abcdefghijklmnopqrstuvwxyz":
            self.assertIs(is_name(letter), True)

    def test_lengths(self):
        for many in range(0, 12):
            self.assertIs(is_name("a" * many), 1 <= many <= 8, many)

    def test_each_other_sign_at_each_place(self):
        others = [chr(code) for code in range(32, 127) if not "a" <= chr(code) <= "z"] + ["\n"]
        for sign in others:
            self.assertIs(is_name(sign), False, repr(sign))
            for at in range(4):
                text = "abc"[:at] + sign + "abc"[at:]
                self.assertIs(is_name(text), False, repr(text))

    def test_line_feed_behind_the_eighth_letter(self):
        self.assertIs(is_name("abcdefgh\n"), False)
        self.assertIs(is_name("abcdefg\n"), False)

    def test_other_kinds(self):
        for thing in ODD_THINGS + ODD_NUMBERS + [0, 1, ["a"], ("a",), {"a": "a"}, ["a", "b"]]:
            self.assertIs(is_name(thing), False, repr(thing))


class WholeInTest(Case):
    def assert_told(self, thing, low, high, number):
        told = whole_in(thing, low, high)
        self.assertEqual(told, number, repr((thing, low, high)))
        self.assertIs(type(told), type(number))

    def test_numbers(self):
        for text, number in [("0", 0), ("1", 1), ("9", 9), ("10", 10), ("100", 100), ("999999", 999999)]:
            self.assert_told(text, 0, 999999, number)

    def test_a_nought_ahead(self):
        for text in ["00", "01", "007", "000", "0123"]:
            self.assert_told(text, 0, 999, None)

    def test_signs_blanks_and_line_feeds(self):
        for text in ["", "-1", "+1", "-0", "+0", " 1", "1 ", "1 2", " ", "\n", "1\n", "\n1", "1\n2", "0\n", "1_0", "1.0",
                     "1e3", "0x1", "a", "1a", "a1", "I", "1,000"]:
            self.assert_told(text, 0, THIRTY_FIGURES, None)

    def test_bounds(self):
        for low in range(0, 14):
            for high in range(0, 14):
                for number in range(0, 16):
                    told = number if low <= number <= high else None
                    self.assert_told(str(number), low, high, told)

    def test_just_beyond_the_bounds(self):
        self.assert_told("999", 1, 999, 999)
        self.assert_told("1000", 1, 999, None)
        self.assert_told("1", 1, 999, 1)
        self.assert_told("0", 1, 999, None)
        self.assert_told("99", 100, 999, None)
        self.assert_told("100", 100, 999, 100)

    def test_thirty_figures(self):
        most = THIRTY_FIGURES
        self.assert_told("9" * 30, 0, most, most)
        self.assert_told("9" * 30, most, most, most)
        self.assert_told("9" * 30, 0, most - 1, None)
        self.assert_told("1" + "0" * 29, 0, most, 10 ** 29)
        self.assert_told("1" + "0" * 30, 0, most, None)
        self.assert_told("0" * 30, 0, most, None)

    def test_long_texts(self):
        for text in ["9" * 400, "1" + "0" * 399, "0" * 400, "9" * 5000]:
            self.assert_told(text, 0, THIRTY_FIGURES, None)

    def test_other_kinds(self):
        for thing in ODD_THINGS + ODD_NUMBERS + [0, 1, 7, ["1"], ("1",), {"1": 1}, ["1", "2"]]:
            self.assert_told(thing, 0, THIRTY_FIGURES, None)

    def test_all_short_texts(self):
        for many in range(0, 5):
            for signs in itertools.product("019 -+\n._a", repeat=many):
                text = "".join(signs)
                number = int(text) if re.fullmatch("0|[1-9][0-9]*", text) else None
                self.assert_told(text, 0, 9999, number)


if __name__ == "__main__":
    unittest.main()
