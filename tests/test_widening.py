"""Points 100 to 103, and what is handed in of points 4, 5 and 6."""

import copy
import itertools
import unittest

from shelvesmoved.errors import NoList, NoMark, NoName, NoNumber, NoRoom, NoRows, NoVolume, Taken
from shelvesmoved.shelves import House
from shelvesmoved.volumes import volume_ahead
from shelvesmoved.widening import shows_widened, widened
from tests.things import ODD_NUMBERS, ODD_THINGS, THIRTY_FIGURES, Case, Numbers, names

NO_WHOLES = ODD_NUMBERS + [True, False, None, "5", "", [], (), [5], (5,), {}, {5: 5}, NoList(5)]

# The volumes have marks that leave places for others between them.
LENGTHS = [10, 10, 3, 10]
ROWS = [[("aa", "10", 1, 4), ("ab", "20", 1, 5)], [("ac", "30", 1, 6), ("ad", "40", 1, 3)], [], [("ae", "50", 2, 9)]]
COMES = ("zz", "25", 1, 2)


def row_of(begin, widths):
    """Volumes in order whose marks are the even numbers from a begin on."""
    return [("v" + name, str(begin + 2 * place), 1, width)
            for place, (name, width) in enumerate(zip(names(60)[begin // 2:], widths))]


def in_order(rows, volume):
    """The volumes of the rows with one more, by the words of 3."""
    volumes = [other for row in rows for other in row]
    ahead = [other for other in volumes if volume_ahead(other, volume)]
    return ahead + [volume] + volumes[len(ahead):]


def all_rows(lengths, volumes):
    """All rows over these lengths that have just these volumes, in order."""
    for ends in itertools.combinations_with_replacement(range(len(volumes) + 1), len(lengths) - 1):
        rows = [list(volumes[begin:end]) for begin, end in zip((0,) + ends, ends + (len(volumes),))]
        if all(sum(volume[3] for volume in row) <= length for row, length in zip(rows, lengths)):
            yield rows


def movers(rows, fresh, volume):
    """The names of those that stand on another shelf than ahead, in their order."""
    elder = {other[0]: place for place, row in enumerate(rows) for other in row}
    return [other[0] for place, row in enumerate(fresh) for other in row
            if other != volume and elder[other[0]] != place]


def table_by_the_words(lengths, rows, volume):
    """The table of 102, from all rows over so many first shelves of so many first volumes."""
    volumes = in_order(rows, volume)
    table = [[0] + [None] * len(volumes)]
    for shelves in range(1, len(lengths) + 1):
        told = []
        for many in range(len(volumes) + 1):
            some = [len(movers(rows, fresh, volume)) for fresh in all_rows(lengths[:shelves], volumes[:many])]
            told.append(min(some, default=None))
        table.append(told)
    return table


def shows_by_the_words(lengths, rows, volume, thing):
    """The conditions of 103, gone through one by one, of a tuple of lists of the right kinds."""
    fresh, told, table = thing
    volumes = in_order(rows, volume)
    if fresh not in list(all_rows(lengths, volumes)) or told != movers(rows, fresh, volume):
        return False
    if [len(row) for row in table] != [len(volumes) + 1] * (len(lengths) + 1):
        return False
    if table[0][0] != 0 or table[-1][-1] != len(told):
        return False
    for place, length in enumerate(lengths):
        for low, high in itertools.combinations_with_replacement(range(len(volumes) + 1), 2):
            stand = volumes[low:high]
            if table[place][low] is None or sum(other[3] for other in stand) > length:
                continue
            moves = len([other for other in stand if other != volume and other not in rows[place]])
            if table[place + 1][high] is None or table[place + 1][high] > table[place][low] + moves:
                return False
    return True


def some_cases(begin, many, most):
    """Small lengths, rows over them, and a volume that comes."""
    numbers = Numbers(begin)
    for _ in range(many):
        lengths = [3 + numbers.below(8) for _ in range(1 + numbers.below(4))]
        rows, at = [], 0
        for length in lengths:
            widths = []
            while at + len(widths) < most and numbers.below(4) > 0:
                widths.append(1 + numbers.below(4))
            while sum(widths) > length:
                widths.pop()
            rows.append(row_of(2 * at, widths))
            at += len(widths)
        yield lengths, rows, ("new", str(2 * numbers.below(at + 1)) + ".5", 1, 1 + numbers.below(6))


class HandedInTest(Case):
    def assert_both(self, kind, found, lengths, rows, volume):
        self.assert_found(kind, found, widened, lengths, rows, volume)
        for thing in [None, ([], [], [])]:
            self.assert_found(kind, found, shows_widened, lengths, rows, volume, thing)

    def test_no_lengths(self):
        bad = ODD_THINGS + ODD_NUMBERS + [5, "abc", {5: 5}, [0], [1000], [5, 0], (1000,), [5] * 13, (5,) * 13]
        bad += [[5] * 400] + [[thing] for thing in NO_WHOLES] + [(5, thing) for thing in NO_WHOLES] + [[True, 5], [[5]]]
        for thing in bad:
            for rows, volume in [([[]], COMES), (None, None), (thing, thing), ([], ("A", 1, 1, 1))]:
                self.assert_both(NoList, thing, thing, rows, volume)

    def test_one_and_twelve_lengths(self):
        for lengths in [[1], (999,), [5], [999] * 12, (1,) * 12]:
            rows = [[] for _ in lengths]
            told = widened(lengths, rows, ("zz", "a", 1, 1))
            self.assertEqual(told[1], [])
            self.assertEqual([volume for row in told[0] for volume in row], [("zz", "a", 1, 1)])
            self.assertIs(shows_widened(lengths, tuple(rows), ("zz", "a", 1, 1), told), True)

    def test_no_rows(self):
        a, b, c = ("a", "1", 1, 5), ("b", "2", 1, 5), ("c", "3", 1, 5)
        bad = [thing for thing in ODD_THINGS] + ODD_NUMBERS
        # Not as many as the lengths, no lists, no volumes.
        bad += [[[]], [[], [], []], [], (), [[], None], [None, []], ["ab", []], [{}, []], {0: [], 1: []}, "ab",
                [[a], "b"], [[None], []], [[a, None], []], [[a], ["b"]], [[list(a)], []], [[("A", "1", 1, 5)], []],
                [[("a", "1", 1, 0)], []], [[("a", "1", True, 5)], []], House([("aa", 1, 1), ("ab", 1, 1)]), [a, b]]
        # Not in order, on a shelf and from shelf to shelf; a name twice, side by side and far apart.
        bad += [[[b, a], []], [[b], [a]], [[a, c], [b]], [[a, a], []], [[a], [a]], [[a], [b, ("a", "9", 1, 1)]]]
        # Too wide by one.
        bad += [[[a, ("b", "2", 1, 6)], []], [[], [a, ("b", "2", 1, 6)]], [[("a", "1", 1, 11)], []]]
        for thing in bad:
            for volume in [("zz", "zz", 9, 1), None, ("A", 1, 1, 1), a]:
                self.assert_both(NoRows, thing, [10, 10], thing, volume)

    def test_rows_at_the_bounds(self):
        a, b = ("a", "1", 1, 5), ("b", "2", 1, 5)
        comes = ("c", "3", 1, 1)
        for rows in [[[a, b], []], [[], [a, b]], ([a], (b,)), ((), ())]:
            self.assertEqual(widened([10, 10], rows, comes), widened((10, 10), [list(row) for row in rows], comes))

    def test_sixty_and_sixty_one_volumes(self):
        some = [(name, "a", 1, 1) for name in names(61)]
        for lengths, rows in [([60], [some[:60]]), ([30, 31], [some[:30], some[30:60]]), ([60, 60], [[], some[:60]])]:
            told = widened([length + 1 for length in lengths], rows, ("zz", "b", 1, 1))
            self.assertEqual(len(told[2][0]), 62)
        for lengths, rows in [([99], [some]), ([99, 99], [some[:30], some[30:]]),
                              ([99, 99], [some[:1], tuple(some[1:])])]:
            for volume in [("zz", "b", 1, 1), None, some[0]]:
                self.assert_both(NoRows, rows, lengths, rows, volume)

    def test_no_volume(self):
        for thing in ODD_THINGS + ODD_NUMBERS + [list(COMES), COMES[:3], COMES + (1,), "abcd", [COMES]]:
            self.assert_both(NoVolume, thing, LENGTHS, ROWS, thing)
        for thing in ODD_THINGS + ODD_NUMBERS:
            self.assert_both(NoName, thing, LENGTHS, ROWS, (thing, "A", 0, 0))
            self.assert_both(NoMark, thing, LENGTHS, ROWS, ("aa", thing, 0, 0))
            self.assert_both(NoNumber, thing, LENGTHS, ROWS, ("aa", "a", thing, 0))
            self.assert_both(NoNumber, thing, LENGTHS, ROWS, ("aa", "a", 1, thing))

    def test_taken(self):
        for row in ROWS:
            for volume in row:
                self.assert_both(Taken, volume[0], LENGTHS, ROWS, volume)
                self.assert_both(Taken, volume[0], LENGTHS, ROWS, (volume[0], "a", 9, 99))

    def test_the_order_of_refusals(self):
        lengths, rows, volume = ["lengths"], ["rows"], ["volume"]
        self.assert_both(NoList, lengths, lengths, rows, volume)
        self.assert_both(NoRows, rows, [99], rows, volume)
        self.assert_both(NoVolume, volume, LENGTHS, ROWS, volume)
        self.assert_both(Taken, "aa", LENGTHS, ROWS, ("aa", "15", 1, 99))
        self.assert_found(NoRoom, "zz", widened, LENGTHS, ROWS, ("zz", "15", 1, 99))

    def test_what_is_handed_in_stays(self):
        lengths, rows = list(LENGTHS), [list(row) for row in ROWS]
        told = widened(lengths, rows, COMES)
        shows_widened(lengths, rows, COMES, told)
        for row in told[0] + told[2]:
            row.append(None)
        self.assertEqual((lengths, rows), (LENGTHS, ROWS))


class WidenedTest(Case):
    def test_it_goes_without_any_moving(self):
        for volume, place in [(("zz", "5", 1, 1), 0), (("zz", "15", 1, 1), 0), (("zz", "35", 1, 1), 1),
                              (("zz", "50", 1, 3), 2), (("zz", "60", 2, 1), 3)]:
            fresh, moved, table = widened(LENGTHS, ROWS, volume)
            self.assertEqual(moved, [])
            self.assertIn(volume, fresh[place])
            self.assertEqual([[other for other in row if other != volume] for row in fresh], ROWS)
            self.assertEqual(table[-1][-1], 0)

    def test_it_goes_between_two_shelves(self):
        lengths = [5, 5]
        rows = [row_of(0, [2, 2]), row_of(4, [2, 2])]
        fresh, moved, _ = widened(lengths, rows, ("zz", "3", 1, 1))
        self.assertEqual(moved, [])
        self.assertIn([len(row) for row in fresh], [[3, 2], [2, 3]])

    def test_it_moves_one(self):
        rows = [row_of(0, [4, 4]), row_of(4, [3]), []]
        fresh, moved, _ = widened([8, 8, 8], rows, ("zz", "1", 1, 3))
        self.assertEqual(fresh, [[rows[0][0], ("zz", "1", 1, 3)], [rows[0][1], rows[1][0]], []])
        self.assertEqual(moved, ["vab"])

    def test_it_moves_many_over_several_shelves(self):
        rows = [row_of(0, [4, 4]), row_of(4, [4, 4]), row_of(8, [4, 4]), row_of(12, [4])]
        fresh, moved, table = widened([8, 8, 8, 8], rows, ("zz", "1", 1, 4))
        self.assertEqual(moved, ["vab", "vad", "vaf"])
        self.assertEqual([[volume[0] for volume in row] for row in fresh],
                         [["vaa", "zz"], ["vab", "vac"], ["vad", "vae"], ["vaf", "vag"]])
        self.assertEqual(table[4], [0, 0, 0, 1, 1, 2, 2, 3, 3])
        # And to the shelves ahead, where those behind are full.
        rows = [[], row_of(0, [4, 4]), row_of(4, [4, 4])]
        fresh, moved, _ = widened([4, 8, 8], rows, ("zz", "5", 1, 4))
        self.assertEqual(moved, ["vaa", "vac"])
        self.assertEqual([len(row) for row in fresh], [1, 2, 2])

    def test_over_a_shelf_that_bears_none(self):
        # The second shelf is too short for any of them.
        rows = [row_of(0, [4, 4]), [], row_of(4, [4])]
        fresh, moved, _ = widened([8, 3, 8], rows, ("zz", "1", 1, 4))
        self.assertEqual(moved, ["vab"])
        self.assertEqual([len(row) for row in fresh], [2, 0, 2])

    def test_the_one_that_comes_does_not_move(self):
        fresh, moved, table = widened([9], [[]], ("zz", "1", 1, 9))
        self.assertEqual((fresh, moved, table), ([[("zz", "1", 1, 9)]], [], [[0, None], [0, 0]]))
        fresh, moved, table = widened([8, 9], [[], []], ("zz", "1", 1, 9))
        self.assertEqual((fresh, moved, table), ([[], [("zz", "1", 1, 9)]], [], [[0, None], [0, None], [0, 0]]))

    def test_no_room(self):
        # One less of length, or one more of width.
        rows = [row_of(0, [4, 4]), row_of(4, [4])]
        self.assertEqual(widened([8, 8], rows, ("zz", "1", 1, 4))[1], ["vab"])
        self.assert_found(NoRoom, "zz", widened, [8, 7], rows, ("zz", "1", 1, 4))
        self.assert_found(NoRoom, "zz", widened, [8, 8], rows, ("zz", "1", 1, 5))
        self.assertEqual(widened([9], [row_of(0, [4, 4])], ("zz", "1", 1, 1))[1], [])
        self.assert_found(NoRoom, "zz", widened, [8], [row_of(0, [4, 4])], ("zz", "1", 1, 1))
        self.assert_found(NoRoom, "zz", widened, [8, 8], [[], []], ("zz", "1", 1, 9))
        # There is room enough in all, but not side by side.
        self.assert_found(NoRoom, "zz", widened, [6, 6], [row_of(0, [4]), row_of(2, [4])], ("zz", "1", 1, 4))

    def test_sixty_volumes_over_twelve_shelves(self):
        rows = [row_of(10 * shelf, [9] * 5) for shelf in range(12)]
        fresh, moved, table = widened([45] * 11 + [54], rows, ("zz", "1", 1, 9))
        self.assertEqual(len(moved), 11)
        self.assertEqual([len(row) for row in fresh], [5] * 11 + [6])
        self.assertEqual([len(table)] + [len(row) for row in table], [13] + [62] * 13)
        self.assertIs(shows_widened([45] * 11 + [54], rows, ("zz", "1", 1, 9), (fresh, moved, table)), True)
        self.assert_found(NoRoom, "zz", widened, [45] * 11 + [53], rows, ("zz", "1", 1, 9))
        some = [[(name, "a", 1, 1) for name in names(60)]] + [[] for _ in range(11)]
        told = widened([999] * 12, some, ("zz", "b", 1, 99))
        self.assertEqual(told[1], [])
        self.assertIs(shows_widened([999] * 12, some, ("zz", "b", 1, 99), told), True)

    def test_the_table(self):
        lengths, rows = [8, 4, 8], [row_of(0, [4, 4]), row_of(4, [4]), row_of(6, [4])]
        _, moved, table = widened(lengths, rows, ("zz", "1", 1, 4))
        self.assertEqual(table, [[0, None, None, None, None, None], [0, 0, 0, None, None, None],
                                 [0, 0, 0, 1, None, None], [0, 0, 0, 1, 2, 2]])
        self.assertEqual(moved, ["vab", "vac"])
        self.assertEqual({type(number) for row in table for number in row}, {int, type(None)})

    def test_over_small_cases_by_all_rows(self):
        done, refused, moving = 0, 0, 0
        for lengths, rows, volume in some_cases(31, 400, 6):
            every = list(all_rows(lengths, in_order(rows, volume)))
            if every == []:
                self.assert_found(NoRoom, volume[0], widened, lengths, rows, volume)
                refused += 1
                continue
            told = widened(lengths, rows, volume)
            self.assertEqual([type(thing) for thing in told], [list] * 3)
            fresh, moved, table = told
            self.assertIn(fresh, every)
            self.assertEqual(moved, movers(rows, fresh, volume))
            self.assertEqual(len(moved), min(len(movers(rows, other, volume)) for other in every))
            self.assertEqual(table, table_by_the_words(lengths, rows, volume))
            self.assertIs(shows_widened(lengths, rows, volume, told), True)
            done += 1
            moving += len(moved) > 1
        self.assertGreater(min(done, refused, moving), 20, (done, refused, moving))

    def test_lists_are_new_each_time(self):
        for at in range(3):
            self.assert_new_each_time(lambda: widened(LENGTHS, ROWS, COMES)[at])
        told = widened(LENGTHS, ROWS, COMES)
        inner = told[0] + told[2] + widened(LENGTHS, ROWS, COMES)[0] + ROWS
        self.assertEqual(len({id(row) for row in inner}), len(inner))


class ShowsWidenedTest(Case):
    LENGTHS = [8, 4, 8]
    ROWS = [row_of(0, [4, 4]), row_of(4, [4]), row_of(6, [4])]
    COMES = ("zz", "1", 1, 4)

    def shows(self, thing):
        return shows_widened(self.LENGTHS, self.ROWS, self.COMES, thing)

    def told(self):
        return widened(self.LENGTHS, self.ROWS, self.COMES)

    def assert_broken(self, at, thing):
        told = list(self.told())
        told[at] = thing
        self.assertIs(self.shows(tuple(told)), False, thing)

    def test_what_is_told_shows_it(self):
        self.assertIs(self.shows(self.told()), True)
        self.assertIs(shows_widened(LENGTHS, ROWS, COMES, widened(LENGTHS, ROWS, COMES)), True)
        self.assertIs(shows_widened(tuple(LENGTHS), tuple(ROWS), COMES, widened(LENGTHS, ROWS, COMES)), True)

    def test_no_tuple_of_three(self):
        fresh, moved, table = self.told()
        others = [[fresh, moved, table], (fresh, moved), (fresh, moved, table, table), fresh, (moved, fresh, table),
                  (fresh, table, moved), ((fresh, moved, table),)]
        for thing in ODD_THINGS + ODD_NUMBERS + others:
            self.assertIs(self.shows(thing), False)

    def test_the_rows(self):
        fresh, _, _ = self.told()
        a, b, c, d = [volume for row in self.ROWS for volume in row]
        self.assertEqual(fresh, [[a, self.COMES], [b], [c, d]])
        bad = [tuple(fresh), fresh[:2], fresh + [[]], [tuple(row) for row in fresh],
               [fresh[0], fresh[1], tuple(fresh[2])], [[self.COMES, a], [b], [c, d]],
               [[a, self.COMES], [b], [d, c]], [[a, self.COMES], [b], [c]],
               [[a], [b], [c, d]], [[a, self.COMES], [b], [c, d, d]], [[a, ("zz", "1", 1, 5)], [b], [c, d]],
               [[a, ("zz", "1", True, 4)], [b], [c, d]], [[a, list(self.COMES)], [b], [c, d]],
               [[a, None], [b], [c, d]],
               [["vaa", "zz"], ["vab"], ["vac", "vad"]], None, [], {}, "abc", [None, None, None], 3, self.ROWS]
        # Overfull by one shelf.
        bad += [[[a, self.COMES], [b, c], [d]], [[a, self.COMES, b], [], [c, d]], [[a], [self.COMES], [b, c, d]]]
        for thing in bad + ODD_THINGS + ODD_NUMBERS:
            self.assert_broken(0, thing)

    def test_the_names(self):
        _, moved, _ = self.told()
        self.assertEqual(moved, ["vab", "vac"])
        for thing in [("vab", "vac"), ["vac", "vab"], ["vab"], ["vab", "vac", "vad"], [], ["vab", "vac", "zz"],
                      ["vab", "zz"], ["vab", None], [["vab"], "vac"], "vab vac", None, 2, {"vab": "vac"},
                      ["vab", ("vac",)]]:
            self.assert_broken(1, thing)
        for thing in ODD_THINGS + ODD_NUMBERS:
            self.assert_broken(1, thing)

    def test_the_table_s_form(self):
        _, _, table = self.told()
        bad = [tuple(table), table[:-1], table[1:], table + [table[-1]], [tuple(row) for row in table], [], None, 0, "",
               {}, table[:-1] + [tuple(table[-1])], [row[:-1] for row in table], [row + [None] for row in table],
               table[:1] + [table[1][:-1]] + table[2:], table[:1] + [table[1] + [None]] + table[2:], [table],
               table[:1] + [None] + table[2:], table[:1] + ["012345"] + table[2:]]
        for thing in bad + ODD_THINGS + ODD_NUMBERS:
            self.assert_broken(2, thing)

    def test_the_table_s_things(self):
        _, _, table = self.told()
        for row in range(4):
            for at in range(6):
                for thing in [-1, True, False, "0", "", [], [0], (0,), {}, -THIRTY_FIGURES]:
                    other = copy.deepcopy(table)
                    other[row][at] = thing
                    self.assert_broken(2, other)

    def test_the_first_and_the_last_number(self):
        _, _, table = self.told()
        for thing in [None, 1, 2]:
            other = copy.deepcopy(table)
            other[0][0] = thing
            self.assert_broken(2, other)
        for thing in [None, 0, 1, 3]:
            other = copy.deepcopy(table)
            other[-1][-1] = thing
            self.assert_broken(2, other)

    def test_each_number_that_is_too_great_or_none(self):
        _, _, table = self.told()
        for row in range(1, 4):
            for at in range(6):
                if table[row][at] is not None:
                    for thing in [None, table[row][at] + 1, THIRTY_FIGURES]:
                        other = copy.deepcopy(table)
                        other[row][at] = thing
                        self.assert_broken(2, other)

    def test_other_tables_show_it_too(self):
        fresh, moved, table = self.told()
        # A number at a place that no rows reach asks for no more behind it than stands there.
        for row, at, number in [(1, 5, 99), (1, 4, 2), (2, 5, 7), (0, 5, THIRTY_FIGURES), (1, 1, 0)]:
            other = copy.deepcopy(table)
            other[row][at] = number
            wanted = shows_by_the_words(self.LENGTHS, self.ROWS, self.COMES, (fresh, moved, other))
            self.assertIs(self.shows((fresh, moved, other)), wanted)
        other = copy.deepcopy(table)
        other[2][5] = 2
        self.assertIs(self.shows((fresh, moved, other)), True)
        # A lesser number behind is no greater than what has to be; ahead it would ask for less at the end.
        other[3][1] = 0
        self.assertIs(self.shows((fresh, moved, other)), True)
        other[2][4] = 0
        self.assertIs(self.shows((fresh, moved, other)), False)

    def test_more_that_move(self):
        lengths, rows, volume = [9, 9], [row_of(0, [3]), row_of(2, [3])], ("zz", "1", 1, 3)
        fresh, moved, table = widened(lengths, rows, volume)
        self.assertEqual(moved, [])
        some = in_order(rows, volume)
        other = [[], some]
        self.assertIs(shows_widened(lengths, rows, volume, (other, ["vaa"], table)), False)
        table[-1][-1] = 1
        self.assertIs(shows_widened(lengths, rows, volume, (other, ["vaa"], table)), False)
        self.assertIs(shows_widened(lengths, rows, volume, ([some[:1], some[1:]], [], table)), False)
        table[-1][-1] = 0
        for many in [1, 2]:
            self.assertIs(shows_widened(lengths, rows, volume, ([some[:many], some[many:]], [], table)), True)
        self.assertIs(shows_widened(lengths, rows, volume, ([some, []], [], table)), False)

    def test_where_there_is_no_room(self):
        lengths, rows, volume = [4, 4], [row_of(0, [4]), []], ("zz", "3", 1, 5)
        table = [[0, None, None], [0, 0, None], [0, 0, None]]
        for fresh in [[row_of(0, [4]), [volume]], [[], []], [row_of(0, [4]) + [volume], []]]:
            for last in [None, 0, 1]:
                table[-1][-1] = last
                self.assertIs(shows_widened(lengths, rows, volume, (fresh, [], table)), False)

    def test_by_the_words(self):
        shown, numbers = 0, Numbers(5)
        for lengths, rows, volume in some_cases(32, 120, 4):
            every = list(all_rows(lengths, in_order(rows, volume)))
            if every == []:
                continue
            fresh, moved, table = widened(lengths, rows, volume)
            for _ in range(25):
                other = copy.deepcopy(table)
                for _ in range(numbers.below(3)):
                    row = numbers.one_of(other)
                    row[numbers.below(len(row))] = numbers.one_of([None, 0, 0, 1, 2, 3])
                some = numbers.one_of(every + [fresh] * 5)
                thing = (some, movers(rows, some, volume), other)
                wanted = shows_by_the_words(lengths, rows, volume, thing)
                self.assertIs(shows_widened(lengths, rows, volume, thing), wanted, (lengths, rows, volume, thing))
                if wanted:
                    # Where it is told True, no rows have fewer that move.
                    self.assertEqual(len(thing[1]), len(moved))
                shown += wanted
        self.assertGreater(shown, 300)


if __name__ == "__main__":
    unittest.main()
