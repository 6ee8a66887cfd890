"""Points 11, 12 and 13, and marks of points 2, 3 and 5."""

import itertools
import re
import unittest

from shelvesmoved.errors import NoMark
from shelvesmoved.marks import (begins_with, is_mark, mark_ahead, mark_of, mark_parts, marks_in_order,
                                unlike_marks)
from tests.things import ODD_NUMBERS, ODD_THINGS, THIRTY_FIGURES, Case, deep

PART = "(0|[1-9][0-9]{0,5}|[a-z]{1,6})"
MARK = PART + "([.]" + PART + "){0,3}"

# All in order, each one ahead of all that follow.
ORDERED = [
    "0", "0.0", "0.0.0.0", "0.1", "0.a", "1", "1.z", "2", "9", "9.9", "9.10", "9.a", "10", "10.0", "99", "100",
    "999999", "999999.0", "a", "a.0", "a.0.0.0", "a.0.a", "a.1", "a.9", "a.10", "a.10.b", "a.a", "aa", "aaaaaa", "ab.1",
    "ab.1.2", "ab.2", "ab.12", "ab.a", "b", "qa", "qa.76", "qa.76.b", "qa.76.b.3", "qa.76.c", "z", "zzzzzz.zzzzzz",
]

NO_MARKS = [
    "", ".", "a.", ".a", "a..b", "..", "a.b.c.d.e", "1.2.3.4.5", "a.b.c.d.", "00", "01", "a.01", "1000000", "a.1000000",
    "abcdefg", "a.abcdefg", "qa.76.b3", "3b", "A", "aB", "a b", " a", "a ", "a. b", "-1", "+1", "a-b", "a,b", "a\n",
    "\na", "a\n.b", "a.\nb", "a.b\n", "1\n", "1.1\n", "a_b", "1_0", "\n", "~",
]

NO_PARTS = [
    [], (), [1] * 5, ("a",) * 5, [True], (False,), [1, True], ["a", False], [-1], [1, -1], [1000000], ("a", 1000000),
    [THIRTY_FIGURES], [""], ["a", ""], ["7"], ["a", "7"], ["0"], ["abcdefg"], ["A"], ["aB"], ["a1"], ["a.b"], ["a\n"],
    ["\na"], [" a"], [None], [1, None], [[]], [["a"]], [("a",)], ["a", (1,)], [{}], {}, {"a": 1}, {0: "a"}, "a",
    "a.b", "", "ab", 7, 0, None, True, False, NoMark("a"), [NoMark("a")], deep(6), [0] * 400,
]


class IsMarkTest(Case):
    def test_marks(self):
        for mark in ORDERED + ["a.b.c.d", "1.2.3.4", "abcdef", "qa.76.b.3", "0.a.999999.zzzzzz"]:
            self.assertIs(is_mark(mark), True, mark)

    def test_no_marks(self):
        for thing in NO_MARKS:
            self.assertIs(is_mark(thing), False, repr(thing))

    def test_other_kinds(self):
        for thing in ODD_THINGS + ODD_NUMBERS + [0, 7, ["a"], ("a",), {"a": "a"}, ["a", ".", "b"]]:
            self.assertIs(is_mark(thing), False, repr(thing))

    def test_all_short_texts(self):
        for many in range(0, 6):
            for signs in itertools.product("az01.\nB", repeat=many):
                text = "".join(signs)
                self.assertIs(is_mark(text), re.fullmatch(MARK, text) is not None, repr(text))

    def test_each_sign_at_each_place(self):
        for sign in [chr(code) for code in range(32, 127)] + ["\n"]:
            for text in ["a.5", "bc", "7"]:
                for at in range(len(text) + 1):
                    odd = text[:at] + sign + text[at:]
                    self.assertIs(is_mark(odd), re.fullmatch(MARK, odd) is not None, repr(odd))


class PartsTest(Case):
    def test_parts(self):
        for mark, parts in [("0", [0]), ("a", ["a"]), ("qa.76.b.3", ["qa", 76, "b", 3]), ("999999", [999999]),
                            ("abcdef.10", ["abcdef", 10]), ("1.2.3.4", [1, 2, 3, 4])]:
            self.assertEqual(mark_parts(mark), parts)
            self.assertEqual([type(part) for part in mark_parts(mark)], [type(part) for part in parts])
            self.assertIs(type(mark_parts(mark)), list)

    def test_parts_make_the_same_mark_again(self):
        for mark in ORDERED:
            self.assertEqual(mark_of(mark_parts(mark)), mark)
            self.assertEqual(mark_of(tuple(mark_parts(mark))), mark)

    def test_mark_of_parts_has_these_parts(self):
        some = [0, 1, 10, 999999, "a", "zzzzzz"]
        for many in range(1, 5):
            for parts in itertools.product(some, repeat=many):
                self.assertEqual(mark_parts(mark_of(parts)), list(parts))
                self.assertEqual(mark_of(list(parts)), ".".join(map(str, parts)))

    def test_no_mark_has_no_parts(self):
        for thing in NO_MARKS + ODD_THINGS + ODD_NUMBERS:
            self.assert_found(NoMark, thing, mark_parts, thing)

    def test_no_parts_have_no_mark(self):
        for thing in NO_PARTS + ODD_NUMBERS:
            self.assert_found(NoMark, thing, mark_of, thing)

    def test_odd_things_have_no_mark(self):
        for thing in ODD_THINGS:
            self.assert_found(NoMark, thing, mark_of, thing)

    def test_a_told_list_may_be_changed(self):
        told = mark_parts("qa.76")
        told.append("b")
        told[0] = 5
        self.assertEqual(mark_parts("qa.76"), ["qa", 76])
        self.assertIsNot(mark_parts("qa.76"), mark_parts("qa.76"))

    def test_parts_stay_as_they_were(self):
        parts = ["qa", 76]
        self.assertEqual(mark_of(parts), "qa.76")
        self.assertEqual(mark_of(parts), "qa.76")
        self.assertEqual(parts, ["qa", 76])


class OrderTest(Case):
    def test_each_stands_ahead_of_all_that_follow(self):
        for at, one in enumerate(ORDERED):
            for behind, other in enumerate(ORDERED):
                self.assertIs(mark_ahead(one, other), at < behind, (one, other))

    def test_told_cases(self):
        self.assertIs(mark_ahead("9", "10"), True)
        self.assertIs(mark_ahead("10", "9"), False)
        self.assertIs(mark_ahead("999999", "a"), True)
        self.assertIs(mark_ahead("a", "a.0"), True)
        self.assertIs(mark_ahead("a.z", "b"), True)
        self.assertIs(mark_ahead("ab", "b"), True)
        self.assertIs(mark_ahead("b", "ab"), False)
        self.assertIs(mark_ahead("qa.76", "qa.76"), False)

    def test_mark_ahead_refuses(self):
        for thing in NO_MARKS + ODD_THINGS + ODD_NUMBERS:
            self.assert_found(NoMark, thing, mark_ahead, thing, "a")
            self.assert_found(NoMark, thing, mark_ahead, "a", thing)

    def test_mark_ahead_refuses_the_first_one_first(self):
        one, other = ["one"], ["other"]
        self.assert_found(NoMark, one, mark_ahead, one, other)
        self.assert_found(NoMark, "A", mark_ahead, "A", None)

    def test_marks_in_order(self):
        turned = ORDERED[::-1]
        mixed = ORDERED[1::3] + ORDERED[::-3] + ORDERED[2::3]
        self.assertEqual(marks_in_order(turned), ORDERED)
        self.assertEqual(marks_in_order(tuple(turned)), ORDERED)
        self.assertEqual(marks_in_order(mixed), [mark for mark in ORDERED for _ in range(mixed.count(mark))])
        self.assertEqual(turned, ORDERED[::-1])

    def test_marks_in_order_of_none_and_of_one(self):
        for marks in [[], ()]:
            self.assertEqual(marks_in_order(marks), [])
            self.assertIs(type(marks_in_order(marks)), list)
        self.assertEqual(marks_in_order(("a",)), ["a"])

    def test_marks_in_order_with_some_several_times(self):
        self.assertEqual(marks_in_order(["b", "10", "9", "b", "10", "10"]), ["9", "10", "10", "10", "b", "b"])

    def test_marks_in_order_is_a_new_list(self):
        marks = ["a", "b"]
        told = marks_in_order(marks)
        self.assertIsNot(told, marks)
        told.clear()
        self.assertEqual(marks, ["a", "b"])
        self.assertEqual(marks_in_order(marks), ["a", "b"])

    def test_unlike_marks(self):
        for marks, many in [([], 0), (["a"], 1), (["a", "a"], 1), (["a", "b", "a"], 2), (["1", "10", "1.0"], 3),
                            (["b", "a", "b", "a", "b"], 2), (ORDERED + ORDERED, len(ORDERED))]:
            self.assertEqual(unlike_marks(marks), many)
            self.assertEqual(unlike_marks(tuple(marks)), many)
            self.assertIs(type(unlike_marks(marks)), int)

    def test_lists_refuse_the_first_thing_that_is_no_mark(self):
        for call in [marks_in_order, unlike_marks]:
            for thing in NO_MARKS + ODD_THINGS + ODD_NUMBERS:
                self.assert_found(NoMark, thing, call, [thing])
                self.assert_found(NoMark, thing, call, ("a", "b", thing, None, "A"))
            self.assert_found(NoMark, "B", call, ["a", "B", "A", "01"])

    def test_what_is_no_list_is_refused_whole(self):
        for call in [marks_in_order, unlike_marks]:
            for thing in [None, True, False, 0, 7, "", "a", "a.b", "abc", {}, {"a": "b"}, NoMark("a"), THIRTY_FIGURES]:
                self.assert_found(NoMark, thing, call, thing)


class BeginsWithTest(Case):
    def test_by_parts(self):
        for mark, beginning, begins in [
                ("ab.1", "ab", True), ("ab.1", "ab.1", True), ("ab.12", "ab.1", False), ("ab.12", "ab", True),
                ("ab", "a", False), ("ab", "ab.1", False), ("12", "1", False), ("1.2", "1", True), ("1.2", "2", False),
                ("a.b.c.d", "a.b.c", True), ("a.b.c.d", "a.b.c.d", True), ("a.b.c.d", "a.c", False),
                ("a.b.c.d", "b.c", False), ("0", "a", False), ("a.0", "a.a", False), ("qa.76.b.3", "qa.76", True)]:
            self.assertIs(begins_with(mark, beginning), begins, (mark, beginning))

    def test_each_begins_with_itself_and_with_its_first_parts(self):
        for mark in ORDERED:
            words = mark.split(".")
            for many in range(1, len(words) + 1):
                self.assertIs(begins_with(mark, ".".join(words[:many])), True)

    def test_all_pairs(self):
        for mark in ORDERED:
            for beginning in ORDERED:
                begins = (mark + ".").startswith(beginning + ".")
                self.assertIs(begins_with(mark, beginning), begins, (mark, beginning))

    def test_refuses(self):
        for thing in NO_MARKS + ODD_THINGS + ODD_NUMBERS:
            self.assert_found(NoMark, thing, begins_with, thing, "a")
            self.assert_found(NoMark, thing, begins_with, "a", thing)

    def test_refuses_the_first_one_first(self):
        one, other = ["one"], ["other"]
        self.assert_found(NoMark, one, begins_with, one, other)


if __name__ == "__main__":
    unittest.main()
