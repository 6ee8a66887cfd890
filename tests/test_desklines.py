"""Point 120: lines, and what is read of them."""

import unittest

from shelvesmoved.desklines import read_line
from shelvesmoved.errors import NoLine
from tests.things import ODD_NUMBERS, ODD_THINGS, THIRTY_FIGURES, Case

# What stands behind each first word, as 121 to 123 tell it.
FORMS = {
    "shelf": "NAME HEIGHT LENGTH", "run": "NAME SIZE BEGIN GROWTH KEEP AT", "split": "NAME FRESH MARK", "join": "NAME",
    "volume": "NAME MARK SIZE WIDTH", "drop": "NAME", "widen": "NAME WIDTH", "old": "NAME HEIGHT LENGTH",
    "stand": "SHELF NAME", "lift": "NAME", "plan": "YEARS", "even": "YEARS", "move": "CAPACITY CARTS", "load": "CART",
    "unload": "CART", "drive": "CART", "ask": "NAME", "back": "NAME", "runs": "", "names": "", "lost": "",
    "alike": "NAME", "of": "NAME", "total": "", "most": "YEARS", "told": "", "row": "SHELF", "where": "NAME",
    "find": "SIZE MARK NAME", "looks": "", "left": "", "out": "", "cart": "CART", "ended": "", "text": "", "house": "",
}

NUMBERS = ["HEIGHT", "LENGTH", "SIZE", "WIDTH", "GROWTH", "KEEP", "YEARS", "CAPACITY", "CARTS", "CART"]

NO_NUMBERS = ["-", "-1", "+1", "01", "00", "1.0", "a", "1a", "1_0", "1,0", "0x1", "1e3", "()", "True", "None", "~",
              "1" + "0" * 30, "9" * 31, "9" * 100]

WORDS = ["a", "A", "aa", "-", "--", "0", "01", "-1", "~", "!", "a.b", "none", "None", "True", "/", "shelf", "x" * 200]


def filled(word, kinds, at=None, other=None):
    """A line of a form: each number is 7, each other word is of letters, but one word perhaps another one."""
    words = ["7" if kind in NUMBERS else kind for kind in kinds]
    if at is not None:
        words[at] = other
    return " ".join([word] + words)


def may_be_none(word, kind):
    return kind in ("BEGIN", "AT") or word == "find" and kind == "NAME"


class ReadLineTest(Case):
    def assert_none(self, line):
        self.assert_found(NoLine, line, read_line, line)

    def test_told_cases(self):
        for line, told in [
                ("shelf aa 1 2", ("shelf", "aa", 1, 2)), ("run aa 1 - 0 999 -", ("run", "aa", 1, None, 0, 999, None)),
                ("run - 0 qa.76.b3 5 6 sa", ("run", "-", 0, "qa.76.b3", 5, 6, "sa")), ("runs", ("runs",)),
                ("find 9 - -", ("find", 9, "-", None)), ("find 9 a.b aa", ("find", 9, "a.b", "aa")),
                ("volume - - 0 0", ("volume", "-", "-", 0, 0)), ("where -", ("where", "-")), ("row 5", ("row", "5")),
                ("split a - -", ("split", "a", "-", "-")), ("stand - -", ("stand", "-", "-")), ("text", ("text",))]:
            self.assertEqual(read_line(line), told)
            self.assertIs(type(read_line(line)), tuple)
            self.assertEqual([type(thing) for thing in read_line(line)], [type(thing) for thing in told])

    def test_each_form(self):
        self.assertEqual(len(FORMS), 36)
        for word, form in FORMS.items():
            kinds = form.split()
            told = tuple([word] + [7 if kind in NUMBERS else kind for kind in kinds])
            self.assertEqual(read_line(filled(word, kinds)), told)

    def test_a_word_more_and_a_word_less(self):
        for word, form in FORMS.items():
            kinds = form.split()
            for more in ["a", "7", "-", word]:
                self.assert_none(filled(word, kinds) + " " + more)
            self.assert_none(word + " a" + filled("", kinds))
            self.assert_none("a " + filled(word, kinds))
            if kinds:
                self.assert_none(word)
                self.assert_none(filled(word, kinds[:-1]))
                self.assert_none(filled(word, kinds[1:]) if len(kinds) > 1 else word)

    def test_blanks(self):
        for word, form in FORMS.items():
            line = filled(word, form.split())
            for bad in [" " + line, line + " ", "  " + line, line + "  ", line + "\n", "\n" + line, "\t" + line]:
                self.assert_none(bad)
            for at, sign in enumerate(line):
                if sign == " ":
                    for other in ["  ", "\n", "\t", " \n", ""]:
                        self.assert_none(line[:at] + other + line[at + 1:])

    def test_a_word_without_signs_in_the_place_of_another_one(self):
        for word, form in FORMS.items():
            kinds = form.split()
            for at in range(len(kinds)):
                self.assert_none(filled(word, kinds, at, ""))
            self.assert_none(filled("", kinds))
        self.assert_none(" ")
        self.assert_none("drop ")
        self.assert_none("find 1 a ")

    def test_first_words(self):
        for word, form in FORMS.items():
            kinds = form.split()
            for other in [word.upper(), word.title(), word + "s" if word + "s" not in FORMS else word + "z", word[:-1],
                          "x" + word, "-" + word, word + "-", "", "7", "NAME"]:
                if other not in FORMS:
                    self.assert_none(filled(other, kinds))

    def test_numbers(self):
        for word, form in FORMS.items():
            kinds = form.split()
            for at, kind in enumerate(kinds):
                for number in ["0", "1", "10", "999", "1000", "9" * 30, "1" + "0" * 29]:
                    told = read_line(filled(word, kinds, at, number))[at + 1]
                    self.assertEqual(told, int(number) if kind in NUMBERS else number)
                    self.assertIs(type(told), int if kind in NUMBERS else str)
                if kind in NUMBERS:
                    for bad in NO_NUMBERS:
                        self.assert_none(filled(word, kinds, at, bad))
        self.assertEqual(read_line("cart " + str(THIRTY_FIGURES)), ("cart", THIRTY_FIGURES))
        self.assert_none("cart " + str(THIRTY_FIGURES + 1))

    def test_any_words(self):
        for word, form in FORMS.items():
            kinds = form.split()
            for at, kind in enumerate(kinds):
                if kind not in NUMBERS:
                    for other in WORDS:
                        told = read_line(filled(word, kinds, at, other))[at + 1]
                        self.assertEqual(told, None if other == "-" and may_be_none(word, kind) else other)

    def test_400_signs_and_401(self):
        for word, form in FORMS.items():
            kinds = form.split()
            for at, kind in enumerate(kinds):
                if kind not in NUMBERS:
                    rest = len(filled(word, kinds, at, ""))
                    for sign in ["a", "~", "-", "0"]:
                        long = sign * (400 - rest)
                        self.assertEqual(read_line(filled(word, kinds, at, long))[at + 1], long)
                        self.assert_none(filled(word, kinds, at, long + sign))
        self.assert_none("x" * 400)
        self.assert_none("drop " + "x" * 445)

    def test_each_sign(self):
        for code in range(128):
            if code == 37:
                continue
            line = "drop a" + chr(code) + "b"
            if 32 < code < 127:
                self.assertEqual(read_line(line), ("drop", line[5:]))
            else:
                self.assert_none(line)
            if code != 32 and not 32 < code < 127:
                self.assert_none(chr(code))
                self.assert_none("drop " + chr(code))
        for sign in ["\x7f", "\x80", "\xe4", "\u20ac", "\u0663"]:
            self.assert_none("drop " + sign)
            self.assert_none("drop a" + sign)
            self.assert_none("cart " + sign)

    def test_any_thing(self):
        for thing in ODD_THINGS + ODD_NUMBERS + [("runs",), ["runs"], {"runs": 1}, 7, b"runs", NoLine("runs"), ""]:
            self.assert_none(thing)

    def test_the_very_line_is_found(self):
        line = "".join(["drop", " a", " b"])
        with self.assertRaises(NoLine) as caught:
            read_line(line)
        self.assertIs(caught.exception.found, line)


if __name__ == "__main__":
    unittest.main()
