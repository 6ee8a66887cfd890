"""Points 90 to 95, looks of point 7, and what is handed in of points 4, 5 and 6."""

import unittest

from shelvesmoved.errors import NoMark, NoName, NoNumber, NoRows, ShelvesError
from shelvesmoved.looks import most_looks, most_sought, seek, shows_seek, sought
from shelvesmoved.marks import marks_in_order
from shelvesmoved.moving import Move
from shelvesmoved.plans import planned
from shelvesmoved.runs import Scheme
from shelvesmoved.shelves import House, house_of
from tests.things import ODD_NUMBERS, ODD_THINGS, THIRTY_FIGURES, Case, Numbers, names, stock_of

# In order; those of the mark a and the size 1 are alike but for their names.
ROW = [("z", "9", 1, 5), ("y", "10", 1, 5), ("b", "a", 1, 5), ("c", "a", 1, 5), ("d", "a", 1, 5), ("a", "a.0", 1, 5),
       ("m", "a", 2, 5), ("k", "b", 2, 5), ("l", "b", 2, 5), ("n", "z", 9, 5)]

NO_SIZES = ODD_THINGS + ODD_NUMBERS + [0, 10, -1, "1", True, False, None]
NO_MARKS = ODD_THINGS + ODD_NUMBERS + ["A", "a.", "qa.76.b3", 5, None]
NO_NAMES = [thing for thing in ODD_THINGS if thing is not None] + ODD_NUMBERS + ["abcdefghi", "a1", "A", 0, ("a",)]


def row_of(many):
    """So many volumes in order."""
    return [(name, str(place), 1 + place // 30, 1) for place, name in enumerate(names(many))]


def stands_ahead(volume, size, mark, name):
    """Whether a volume stands ahead of what is sought, by the words of 3 and 91."""
    if volume[2] != size:
        return volume[2] < size
    if volume[1] != mark:
        return marks_in_order([mark, volume[1]])[0] == volume[1]
    return name is not None and volume[0] < name


def looked_by_the_words(row, size, mark, name):
    """The looks of 91, with all places that are left, and what is found, from the whole row."""
    looks, left = [], list(range(len(row)))
    while left:
        middle = left[len(left) // 2]
        looks.append(middle)
        if stands_ahead(row[middle], size, mark, name):
            left = [place for place in left if place > middle]
        else:
            left = [place for place in left if place < middle]
    found = [place for place, volume in enumerate(row)
             if volume[2] == size and volume[1] == mark and name in (None, volume[0])]
    return looks, found[0] if found else None


def all_sought():
    """Sizes, marks and names, of volumes of the row and of others."""
    for size in (1, 2, 3, 9):
        for mark in ("0", "9", "10", "a", "a.0", "a.1", "b", "z", "zz"):
            for name in (None, "a", "b", "bb", "c", "d", "e", "k", "l", "m", "n", "y", "z", "zz"):
                yield size, mark, name


class HandedInTest(Case):
    def assert_both(self, kind, found, row, size, mark, name):
        self.assert_found(kind, found, seek, row, size, mark, name)
        for thing in [None, ([], None), seek([], 1, "a")]:
            self.assert_found(kind, found, shows_seek, row, size, mark, name, thing)

    def test_no_row(self):
        turned, twice = [ROW[1], ROW[0]], [ROW[0], ROW[0]]
        far = [("b", "a", 1, 5), ("c", "a", 1, 5), ("b", "b", 2, 5)]
        bad = [thing for thing in ODD_THINGS if thing not in ([], ())] + ODD_NUMBERS
        bad += [turned, tuple(turned), twice, far, ROW + ROW[:1], [None], [ROW[0], None], (ROW[0], "b"), [list(ROW[0])],
                [("A", "a", 1, 1)], [("a", "A", 1, 1)], [("a", "a", 0, 1)], [("a", "a", 1, 100)], [("a", "a", True, 1)],
                ROW[0], {0: ROW[0]}, "abc", [[ROW[0]]], House([]), 5]
        for thing in bad:
            for size, mark, name in [(1, "a", None), (1, "a", "b"), (None, 5, 5), (thing, thing, thing)]:
                self.assert_both(NoRows, thing, thing, size, mark, name)

    def test_sixty_and_sixty_one(self):
        row = row_of(60)
        self.assertEqual(seek(row, 1, "0")[1], 0)
        self.assertEqual(seek(tuple(row), 2, "59")[1], 59)
        for more in [row_of(61), tuple(row_of(61)), row + [("zz", "zz", 9, 99)], row_of(100)]:
            self.assert_both(NoRows, more, more, 1, "0", None)

    def test_no_size(self):
        for thing in NO_SIZES:
            for row in [[], (), ROW]:
                for mark, name in [("a", None), ("a", "b"), (None, 5), (thing, thing)]:
                    self.assert_both(NoNumber, thing, row, thing, mark, name)
                self.assert_found(NoNumber, thing, seek, row, thing, "a")

    def test_no_mark(self):
        for thing in NO_MARKS:
            for row in [[], ROW]:
                for name in [None, "b", 5, "A"]:
                    self.assert_both(NoMark, thing, row, 1, thing, name)
                self.assert_found(NoMark, thing, seek, row, 9, thing)

    def test_no_name(self):
        for thing in NO_NAMES:
            for row in [[], ROW, tuple(ROW)]:
                self.assert_both(NoName, thing, row, 1, "a", thing)

    def test_the_order_of_refusals(self):
        row, size, mark, name = ["row"], ["size"], ["mark"], ["name"]
        self.assert_both(NoRows, row, row, size, mark, name)
        self.assert_both(NoNumber, size, ROW, size, mark, name)
        self.assert_both(NoMark, mark, ROW, 1, mark, name)
        self.assert_both(NoName, name, ROW, 1, "a", name)

    def test_sizes_at_the_bounds(self):
        for size in range(1, 10):
            self.assertEqual(seek([], size, "a", "abcdefgh"), ([], None))

    def test_what_is_handed_in_stays(self):
        row = list(ROW)
        looks, _ = seek(row, 1, "a")
        looks.append(None)
        thing = seek(row, 1, "a")
        shows_seek(row, 1, "a", None, thing)
        self.assertEqual(row, ROW)
        self.assertEqual(thing, seek(row, 1, "a"))


class SeekTest(Case):
    def test_none_and_one(self):
        for row in [[], ()]:
            self.assertEqual(seek(row, 1, "a"), ([], None))
            self.assertEqual(seek(row, 9, "9", "zz"), ([], None))
        one = [("b", "a", 2, 5)]
        for size, mark, name, told in [(2, "a", None, 0), (2, "a", "b", 0), (2, "a", "a", None), (2, "a", "c", None),
                                       (1, "a", None, None), (3, "a", None, None), (2, "b", None, None),
                                       (2, "9", "b", None), (1, "a", "b", None)]:
            self.assertEqual(seek(one, size, mark, name), ([0], told))

    def test_two(self):
        two = [("b", "a", 1, 5), ("c", "b", 1, 5)]
        for size, mark, told in [(1, "a", ([1, 0], 0)), (1, "b", ([1, 0], 1)), (1, "9", ([1, 0], None)),
                                 (1, "aa", ([1, 0], None)), (1, "c", ([1], None)), (2, "a", ([1], None))]:
            self.assertEqual(seek(two, size, mark), told)

    def test_found_at_each_place(self):
        for many in list(range(1, 20)) + [31, 32, 33, 59, 60]:
            row = row_of(many)
            for place, (name, mark, size, _) in enumerate(row):
                for told in [seek(row, size, mark), seek(row, size, mark, name), seek(tuple(row), size, mark, None)]:
                    self.assertEqual(told[1], place)
                    self.assertEqual(told, looked_by_the_words(row, size, mark, None))
                    self.assertLessEqual(len(told[0]), most_looks(many))
                self.assertIs(seek(row, size, mark, "zzz")[1], None)
                self.assertIs(seek(row, size, mark + ".0")[1], None)
            # Whoever seeks the first one takes the most looks.
            self.assertEqual(len(seek(row, row[0][2], row[0][1])[0]), most_looks(many))

    def test_alike_ones(self):
        self.assertEqual(seek(ROW, 1, "a"), ([5, 2, 1], 2))
        self.assertEqual(seek(ROW, 1, "a", "b"), ([5, 2, 1], 2))
        self.assertEqual(seek(ROW, 1, "a", "c"), ([5, 2, 4, 3], 3))
        self.assertEqual(seek(ROW, 1, "a", "d"), ([5, 2, 4, 3], 4))
        self.assertEqual(seek(ROW, 1, "a", "a"), ([5, 2, 1], None))
        self.assertEqual(seek(ROW, 1, "a", "e"), ([5, 2, 4], None))
        self.assertEqual(seek(ROW, 2, "b")[1], 7)
        self.assertEqual(seek(ROW, 2, "b", "l")[1], 8)
        alike = [(name, "m", 5, 1) for name in names(60)]
        self.assertEqual(seek(alike, 5, "m"), ([30, 15, 7, 3, 1, 0], 0))
        self.assertEqual([seek(alike, 5, "m", name)[1] for name in names(60)], list(range(60)))

    def test_kinds(self):
        for size, mark, name in all_sought():
            looks, place = seek(ROW, size, mark, name)
            self.assertEqual([type(looks)] + [type(look) for look in looks], [list] + [int] * len(looks))
            self.assertTrue(place is None or type(place) is int)
            self.assertIs(type(seek(ROW, size, mark, name)), tuple)

    def test_by_the_words(self):
        found = 0
        for many in range(len(ROW) + 1):
            for row in [ROW[:many], ROW[many:], ROW[::2], tuple(ROW[1::2])]:
                for size, mark, name in all_sought():
                    told = seek(row, size, mark, name)
                    self.assertEqual(told, looked_by_the_words(row, size, mark, name))
                    self.assertLessEqual(len(told[0]), most_looks(len(row)))
                    found += told[1] is not None
        self.assertGreater(found, 100)

    def test_the_looks_are_a_new_list(self):
        self.assert_new_each_time(lambda: seek(ROW, 1, "a")[0])
        self.assert_new_each_time(lambda: seek([], 1, "a")[0])


class MostLooksTest(Case):
    def test_told(self):
        for many, told in [(0, 0), (1, 1), (2, 2), (3, 2), (4, 3), (7, 3), (8, 4), (15, 4), (16, 5), (31, 5), (32, 6),
                           (59, 6), (60, 6)]:
            self.assertEqual(most_looks(many), told)
            self.assertIs(type(most_looks(many)), int)
        for many in range(61):
            self.assertEqual(most_looks(many), min(k for k in range(10) if 2 ** k > many))

    def test_no_number(self):
        for thing in ODD_THINGS + ODD_NUMBERS + [-1, 61, 62, True, False, "5", [5], (5,), {5: 5}, None]:
            self.assert_found(NoNumber, thing, most_looks, thing)


class ShowsSeekTest(Case):
    def test_what_is_told_shows_it(self):
        for size, mark, name in all_sought():
            self.assertIs(shows_seek(ROW, size, mark, name, seek(ROW, size, mark, name)), True)
            self.assertIs(shows_seek(tuple(ROW), size, mark, name, seek(ROW, size, mark, name)), True)
        self.assertIs(shows_seek([], 1, "a", None, ([], None)), True)

    def test_each_thing_otherwise(self):
        looks, place = seek(ROW, 1, "a", "c")
        self.assertEqual((looks, place), ([5, 2, 4, 3], 3))
        for thing in [(looks, None), (looks, 2), (looks, 4), (looks, 0), (looks, -1), (looks, "3"), (looks, [3]),
                      (looks, True), (tuple(looks), place), [looks, place], (looks,), (looks, place, place), looks,
                      place, (looks[:-1], place), (looks + [3], place), (looks[::-1], place), ([5, 2, 1], place),
                      ([5, 2, 4, None], place), ([5, 2, 4, "3"], place), ([5, 2, 4, [3]], place), (None, place),
                      ("5243", place), ({5: 2, 4: 3}, place), ([], place), ([5, 2, 4, THIRTY_FIGURES], place),
                      (looks, THIRTY_FIGURES), (place, looks), ([looks], place), (looks, (place,))]:
            self.assertIs(shows_seek(ROW, 1, "a", "c", thing), False, thing)

    def test_not_found(self):
        looks, _ = seek(ROW, 1, "a", "e")
        self.assertIs(shows_seek(ROW, 1, "a", "e", (looks, None)), True)
        for place in list(range(11)) + [False, "", [], -1]:
            self.assertIs(shows_seek(ROW, 1, "a", "e", (looks, place)), False)
        for thing in [([], 0), ([], False), ([0], None), ((), None), ([], ()), [[], None]]:
            self.assertIs(shows_seek([], 1, "a", None, thing), False)

    def test_truths_are_no_places(self):
        two = row_of(2)
        self.assertEqual(seek(two, 1, "1"), ([1, 0], 1))
        for thing in [([True, 0], 1), ([1, False], 1), ([1, 0], True), ([True, False], True)]:
            self.assertIs(shows_seek(two, 1, "1", None, thing), False)
        self.assertIs(shows_seek(two, 1, "0", None, ([1, 0], 0)), True)
        self.assertIs(shows_seek(two, 1, "0", None, ([1, 0], False)), False)

    def test_any_thing(self):
        for thing in ODD_THINGS + ODD_NUMBERS + [0, 5, (None, None), ([],), ([None], None), ({}, None), NoRows([])]:
            self.assertIs(shows_seek(ROW, 1, "a", None, thing), False)
            self.assertIs(shows_seek([], 1, "a", None, thing), False)


def moved(carts=2):
    """A move of the row, in loads of two volumes each, run by run."""
    runs = [(name, size, None, 0, 0, None) for name, size in [("ra", 1), ("rb", 2), ("rc", 9)]]
    shelves = [("na", 9, 15), ("nb", 9, 99), ("nc", 9, 99), ("nd", 9, 99)]
    plan = planned(Scheme(runs), stock_of(ROW), shelves, 0)
    return Move(house_of([("oa", 9, 20), ("ob", 9, 99)], [ROW[:4], ROW[4:]]), plan, 10, carts)


def rows_in(move):
    """The rows of 94, with what they are called."""
    rows = [("new", move.new_house().volumes())]
    rows.extend((cart, move.on_cart(cart)) for cart in range(1, move.carts() + 1))
    return rows + [("old", move.old_house().volumes())]


def sought_by_the_words(move, size, mark, name):
    told = []
    for word, row in rows_in(move):
        looks, place = looked_by_the_words(row, size, mark, name)
        told.append((word, looks))
        if place is not None:
            return told, move.where(row[place][0])
    return told, None


class SoughtTest(Case):
    def test_handed_in(self):
        move = moved()
        for thing in NO_SIZES:
            for mark, name in [("a", None), (None, 5), (thing, thing)]:
                self.assert_found(NoNumber, thing, sought, move, thing, mark, name)
            self.assert_found(NoNumber, thing, sought, move, thing, "a")
        for thing in NO_MARKS:
            self.assert_found(NoMark, thing, sought, move, 1, thing)
            self.assert_found(NoMark, thing, sought, move, 1, thing, thing)
            self.assert_found(NoMark, thing, sought, move, 1, thing, 5)
        for thing in NO_NAMES:
            self.assert_found(NoName, thing, sought, move, 1, "a", thing)

    def test_at_first(self):
        move = moved()
        self.assertEqual(sought(move, 1, "a"), ([("new", []), (1, []), (2, []), ("old", [5, 2, 1])], ("old", "oa", 2)))
        self.assertEqual(sought(move, 1, "a", "d"),
                         ([("new", []), (1, []), (2, []), ("old", [5, 2, 4, 3])], ("old", "ob", 0)))
        self.assertEqual(sought(move, 1, "a", "e"), ([("new", []), (1, []), (2, []), ("old", [5, 2, 4])], None))
        self.assertEqual(sought(move, 3, "a"), ([("new", []), (1, []), (2, []), ("old", [5, 8, 9])], None))
        self.assertEqual(most_sought(move), 4)

    def test_in_each_row(self):
        move = moved()
        self.assertEqual(move.loads(), [["z", "y"], ["b", "c"], ["d", "a"], ["m", "k"], ["l"], ["n"]])
        for cart in [1, 2]:
            move.load(cart)
            move.drive(cart)
        move.unload(1)
        move.drive(1)
        move.load(1)
        # New: z, y; on the cart 1: d, a; on the cart 2: b, c; old: m, k, l, n.
        self.assertEqual(sought(move, 1, "10"), ([("new", [1, 0])], ("new", "na", 1)))
        self.assertEqual(sought(move, 1, "a"), ([("new", [1]), (1, [1, 0])], ("cart", 1, 0)))
        self.assertEqual(sought(move, 1, "a", "c"), ([("new", [1]), (1, [1, 0]), (2, [1, 0])], ("cart", 2, 1)))
        self.assertEqual(sought(move, 2, "b"),
                         ([("new", [1]), (1, [1]), (2, [1]), ("old", [2, 1, 0])], ("old", "ob", 1)))
        self.assertEqual(sought(move, 2, "c"), ([("new", [1]), (1, [1]), (2, [1]), ("old", [2, 3])], None))
        self.assertEqual(most_sought(move), 2 + 2 + 2 + 3)
        move.ask("d")
        self.assertEqual(sought(move, 1, "a", "d"), ([("new", [1]), (1, [0]), (2, [1]), ("old", [2, 1, 0])], None))
        self.assertEqual(sought(move, 1, "a"), ([("new", [1]), (1, [0]), (2, [1, 0])], ("cart", 2, 0)))
        self.assertEqual(most_sought(move), 2 + 1 + 2 + 3)

    def test_each_cart_by_its_number(self):
        move = moved(9)
        for cart in [9, 1, 5]:
            move.load(cart)
        looks, where = sought(move, 1, "a", "c")
        self.assertEqual(looks, [("new", []), (1, [1, 0])])
        self.assertEqual(where, ("cart", 1, 1))
        looks, where = sought(move, 1, "9")
        self.assertEqual([row for row, _ in looks], ["new", 1, 2, 3, 4, 5, 6, 7, 8, 9])
        self.assertEqual(where, ("cart", 9, 0))
        self.assertEqual([row for row, _ in sought(move, 9, "z")[0]], ["new", 1, 2, 3, 4, 5, 6, 7, 8, 9, "old"])

    def test_a_move_of_none(self):
        move = Move(House([]), planned(Scheme([]), stock_of([]), [], 0), 1, 1)
        self.assertEqual(sought(move, 1, "a"), ([("new", []), (1, []), ("old", [])], None))
        self.assertEqual(most_sought(move), 0)

    def test_behind_each_deed(self):
        for begin in range(3):
            move, numbers = moved(2), Numbers(begin)
            for _ in range(60):
                try:
                    word = numbers.one_of(["load", "drive", "unload", "ask", "back", "drive", "unload"])
                    getattr(move, word)(numbers.one_of(ROW)[0] if word in ("ask", "back") else 1 + numbers.below(2))
                except ShelvesError:
                    pass
                self.assert_found_as_promised(move)

    def assert_found_as_promised(self, move):
        """What 95 promises of a move as it stands, and that nothing is changed by seeking."""
        most = most_sought(move)
        self.assertEqual(most, sum(most_looks(len(row)) for _, row in rows_in(move)))
        ahead = (move.journal(), rows_in(move))
        for name, mark, size, _ in ROW:
            looks, where = sought(move, size, mark, name)
            self.assertEqual((looks, where), sought_by_the_words(move, size, mark, name))
            self.assertLessEqual(sum(len(places) for _, places in looks), most)
            self.assertEqual(where, None if move.where(name) == ("out",) else move.where(name))
            looks, where = sought(move, size, mark)
            self.assertEqual((looks, where), sought_by_the_words(move, size, mark, None))
            some = [move.where(other[0]) for other in ROW if other[1:3] == (mark, size)]
            there = [place for place in some if place != ("out",)]
            self.assertTrue(where in there if there else where is None)
        self.assertIs(sought(move, 1, "a.0", "b")[1], None)
        self.assertEqual((move.journal(), rows_in(move)), ahead)

    def test_what_is_told_is_new_each_time(self):
        move = moved()
        self.assert_new_each_time(lambda: sought(move, 1, "a")[0])
        for at in range(4):
            self.assert_new_each_time(lambda: sought(move, 1, "a")[0][at][1])
        lists = [looks for _, looks in sought(move, 1, "a")[0]]
        self.assertEqual(len({id(looks) for looks in lists}), 4)
        self.assertEqual({type(pair) for pair in sought(move, 1, "a")[0]}, {tuple})


if __name__ == "__main__":
    unittest.main()
