"""Points 50 to 56, and what is handed in of points 4, 5 and 6."""

import itertools
import unittest

from shelvesmoved.cutting import cut_fewest, cut_spread, fewest_for, shows_ends, shows_spread
from shelvesmoved.errors import NoList, NoNumber, NoRoom
from tests.things import ODD_NUMBERS, ODD_THINGS, THIRTY_FIGURES, Case, Numbers

# (widths, lengths, keep, what cut_fewest tells)
CUT = [
    ([], [], 0, ("all", [])), ([], [5], 0, ("all", [])), ([], [5, 6], 999, ("all", [])), ([1], [], 0, ("short", [])),
    ([1], [], 999, ("short", [])), ([5], [5], 0, ("all", [1])), ([5], [4], 0, ("short", [0])),
    ([5], [4, 5], 0, ("all", [0, 1])), ([5], [5, 6], 1, ("all", [0, 1])), ([5], [5, 6, 9], 1, ("all", [0, 1])),
    ([3, 3, 3], [6, 6], 0, ("all", [2, 3])), ([3, 3, 3], [6, 6, 6], 1, ("all", [1, 2, 3])),
    ([3, 3, 3], [6, 6], 1, ("short", [1, 2])), ([3, 3, 3], [9], 0, ("all", [3])), ([3, 3, 3], [8], 0, ("short", [2])),
    ([3, 3, 3], [10], 2, ("short", [2])), ([7, 1, 1], [3, 9, 9], 0, ("all", [0, 3])),
    ([7, 1, 1], [6, 6, 6], 0, ("short", [0, 0, 0])), ([1, 7], [6, 6, 8], 1, ("all", [1, 1, 2])),
    ([2, 2, 2], [5, 5, 5], 5, ("short", [0, 0, 0])), ([2, 2, 2], [5, 5, 12], 6, ("all", [0, 0, 3])),
    ([2], [5, 999], 997, ("all", [0, 1])), ([2], [5, 999], 998, ("short", [0, 0])),
    ([1], [999], 999, ("short", [0])),
    ([99] * 10, [990], 0, ("all", [10])), ([99] * 10, [989], 0, ("short", [9])),
    ([1] * 60, [1] * 40, 0, ("short", list(range(1, 41)))), ([1] * 60, [2] * 40, 0, ("all", list(range(2, 61, 2)))),
    ([99] * 60, [999] * 40, 0, ("all", [10, 20, 30, 40, 50, 60])), ([1] * 60, [60], 0, ("all", [60])),
]

NO_WHOLES = ODD_NUMBERS + [True, False, None, "5", "", [], (), [5], (5,), {}, {5: 5}, NoRoom(5)]

NO_LISTS = [thing for thing in ODD_THINGS if thing != [] and thing != ()] + ODD_NUMBERS
NO_LISTS = NO_LISTS + [0, 5, "5", {5: 5}, NoList([])]

NO_WIDTHS = NO_LISTS + [[0], [100], [5, 0], [100, 5], (0,), (5, 100), [1] * 61, (1,) * 61, [99] * 400]
NO_WIDTHS = NO_WIDTHS + [[thing] for thing in NO_WHOLES] + [(5, thing) for thing in NO_WHOLES] + [[True, 5], [[5]]]

NO_LENGTHS = NO_LISTS + [[0], [1000], [5, 0], [1000, 5], (0,), (5, 1000), [1] * 41, (1,) * 41, [999] * 400]
NO_LENGTHS = NO_LENGTHS + [[thing] for thing in NO_WHOLES] + [(5, thing) for thing in NO_WHOLES] + [[True, 5], [[5]]]

NO_KEEPS = NO_WHOLES + [-1, 1000, True, False, None, [0], "0"]


def all_cuttings(widths, lengths, keep):
    """All cuttings that fit with a keep [51], whether or not all things stand."""
    for ends in itertools.combinations_with_replacement(range(len(widths) + 1), len(lengths)):
        begins = (0,) + ends
        if all(begin == end or sum(widths[begin:end]) <= length - keep
               for length, begin, end in zip(lengths, begins, ends)):
            yield list(ends)


def free_length(widths, lengths, ends):
    return min(length - sum(widths[begin:end]) for length, begin, end in zip(lengths, [0] + ends, ends))


def shows_by_the_words(widths, lengths, keep, ends):
    """The four conditions of 53, gone through one by one."""
    begin = 0
    if len(ends) > len(lengths):
        return False
    for end, length in zip(ends, lengths):
        left = begin < len(widths)
        fits = begin <= end <= len(widths) and (begin == end or sum(widths[begin:end]) <= length - keep)
        if not left or not fits:
            return False
        if end < len(widths) and sum(widths[begin:end + 1]) <= length - keep:
            return False
        begin = end
    return begin == len(widths) or len(ends) == len(lengths)


def some_rows(begin, many):
    """Small widths and lengths of many kinds."""
    numbers = Numbers(begin)
    for _ in range(many):
        widths = [1 + numbers.below(6) for _ in range(numbers.below(7))]
        yield widths, [1 + numbers.below(9) for _ in range(numbers.below(5))]


class HandedInTest(Case):
    def test_no_widths(self):
        for thing in NO_WIDTHS:
            for call, more in [(cut_fewest, ([5],)), (cut_fewest, ([5], 0)), (cut_fewest, (thing, thing)),
                               (shows_ends, ([5], 0, [])), (shows_ends, (None, None, None)),
                               (fewest_for, ([5], 0, 0)), (fewest_for, (None, None, None)),
                               (cut_spread, ([5],)), (cut_spread, (None,)), (cut_spread, ([],)),
                               (shows_spread, ([5], 0, [0], None)), (shows_spread, (None, None, None, None))]:
                self.assert_found(NoList, thing, call, thing, *more)

    def test_no_lengths(self):
        for thing in NO_LENGTHS:
            for call, more in [(cut_fewest, ()), (cut_fewest, (0,)), (cut_fewest, (thing,)), (shows_ends, (0, [])),
                               (shows_ends, (None, None)), (fewest_for, (0, 0)), (fewest_for, (None, None)),
                               (cut_spread, ()), (shows_spread, (0, [0], None)), (shows_spread, (None, None, 5))]:
                self.assert_found(NoList, thing, call, [5], thing, *more)
                self.assert_found(NoList, thing, call, (), thing, *more)

    def test_one_length_at_least(self):
        for lengths in [[], ()]:
            for widths in [[], [5], (1, 2)]:
                self.assert_found(NoList, lengths, cut_spread, widths, lengths)
                self.assert_found(NoList, lengths, shows_spread, widths, lengths, 0, [], None)
                self.assert_found(NoList, lengths, shows_spread, widths, lengths, None, None, 5)

    def test_no_keep(self):
        for thing in NO_KEEPS:
            for widths in [[], [5]]:
                self.assert_found(NoNumber, thing, cut_fewest, widths, [5], thing)
                self.assert_found(NoNumber, thing, cut_fewest, widths, [], thing)
                self.assert_found(NoNumber, thing, shows_ends, widths, [5], thing, [])
                self.assert_found(NoNumber, thing, fewest_for, widths, [5], thing, 0)
                self.assert_found(NoNumber, thing, fewest_for, widths, [5], thing, None)

    def test_at_the_bounds(self):
        self.assertEqual(cut_fewest([1, 99], [1, 999], 0), ("all", [1, 2]))
        self.assertEqual(cut_fewest([1] * 60, [999] * 40, 999), ("short", [0] * 40))
        self.assertIs(shows_ends([1] * 60, [999] * 40, 999, [0] * 40), True)

    def test_the_order_of_refusals(self):
        widths, lengths = ["widths"], ["lengths"]
        for call, more in [(cut_fewest, ("keep",)), (shows_ends, ("keep", 1)), (fewest_for, ("keep", "spare")),
                           (cut_spread, ()), (shows_spread, ("free", 1, 2))]:
            self.assert_found(NoList, widths, call, widths, lengths, *more)
            self.assert_found(NoList, lengths, call, [99], lengths, *more)
        for call, more in [(cut_fewest, ()), (shows_ends, (1,)), (fewest_for, ("spare",))]:
            self.assert_found(NoNumber, "keep", call, [5], [5], "keep", *more)
        self.assert_found(NoNumber, "spare", fewest_for, [5], [5], 0, "spare")

    def test_lists_and_tuples(self):
        for widths, lengths, keep, told in CUT:
            for call, more in [(cut_fewest, (keep,)), (shows_ends, (keep, told[1])), (fewest_for, (keep, 3))]:
                answer = call(widths, lengths, *more)
                self.assertEqual(call(tuple(widths), lengths, *more), answer)
                self.assertEqual(call(widths, tuple(lengths), *more), answer)
                self.assertEqual(call(tuple(widths), tuple(lengths), *more), answer)
        self.assertEqual(cut_spread((3, 3), (5, 5)), cut_spread([3, 3], [5, 5]))
        self.assertIs(shows_spread((3, 3), (5, 5), 2, [1, 2], [0, 0]), True)

    def test_what_is_handed_in_stays(self):
        for widths, lengths, keep, told in CUT:
            one, other, ends = list(widths), list(lengths), list(told[1])
            cut_fewest(one, other, keep)
            shows_ends(one, other, keep, ends)
            fewest_for(one, other, keep, 7)
            if lengths and cut_fewest(one, other)[0] == "all":
                free, spread, more = cut_spread(one, other)
                ahead = (list(spread), more and list(more))
                shows_spread(one, other, free, spread, more)
                self.assertEqual((spread, more), ahead)
            self.assertEqual((one, other, ends), (widths, lengths, told[1]))


class CutFewestTest(Case):
    def test_told_cases(self):
        for widths, lengths, keep, told in CUT:
            answer = cut_fewest(widths, lengths, keep)
            self.assertEqual(answer, told, (widths, lengths, keep))
            self.assertEqual([type(answer), type(answer[1])], [tuple, list])
            self.assertEqual({type(end) for end in answer[1]} - {int}, set())

    def test_without_a_keep(self):
        for widths, lengths, keep, told in CUT:
            self.assertEqual(cut_fewest(widths, lengths), cut_fewest(widths, lengths, 0))
            if keep == 0:
                self.assertEqual(cut_fewest(widths, lengths), told)

    def test_a_keep_as_long_as_a_shelf_and_longer(self):
        for keep, told in [(4, ("all", [1, 2])), (5, ("all", [0, 2])), (6, ("all", [0, 2])), (7, ("all", [0, 2])),
                           (8, ("short", [0, 1])), (9, ("short", [0, 0])), (10, ("short", [0, 0]))]:
            self.assertEqual(cut_fewest([1, 1], [5, 9], keep), told)

    def test_no_cutting_that_fits_has_a_greater_end(self):
        for widths, lengths in some_rows(1, 150):
            for keep in [0, 1, 3]:
                word, ends = cut_fewest(widths, lengths, keep)
                padded = ends + [len(widths)] * (len(lengths) - len(ends))
                cuttings = list(all_cuttings(widths, lengths, keep))
                self.assertIn(padded, cuttings)
                for cutting in cuttings:
                    self.assertTrue(all(end <= most for end, most in zip(cutting, padded)))
                held = [cutting for cutting in cuttings if (cutting or [0])[-1] == len(widths)]
                self.assertEqual(word, "all" if held else "short")
                self.assertEqual(len(ends), least_shelves(widths, held) if held else len(lengths))

    def test_what_is_told_is_new_each_time(self):
        for widths, lengths, keep, told in CUT:
            self.assert_new_each_time(lambda: cut_fewest(widths, lengths, keep)[1])


def least_shelves(widths, held):
    return min(([0] + cutting).index(len(widths)) for cutting in held)


class ShowsEndsTest(Case):
    def test_what_is_told_shows_it(self):
        for widths, lengths, keep, told in CUT:
            self.assertIs(shows_ends(widths, lengths, keep, told[1]), True, (widths, lengths, keep))
            self.assertIs(shows_ends(widths, lengths, keep, list(told[1])), True)

    def test_a_tuple_is_none(self):
        for widths, lengths, keep, told in CUT:
            self.assertIs(shows_ends(widths, lengths, keep, tuple(told[1])), False)
            self.assertIs(shows_ends(widths, lengths, keep, told), False)

    def test_each_condition_broken_by_itself(self):
        widths, lengths = [3, 3, 3, 3], [6, 5, 9, 9]
        self.assertIs(shows_ends(widths, lengths, 0, [2, 3, 4]), True)
        # No thing is left to stand on the last one.
        self.assertIs(shows_ends(widths, lengths, 0, [2, 3, 4, 4]), False)
        # The first shelf is overfull.
        self.assertIs(shows_ends(widths, lengths, 0, [3, 4]), False)
        self.assertIs(shows_ends(widths, lengths, 0, [4]), False)
        # One thing more would fit.
        self.assertIs(shows_ends(widths, lengths, 0, [1, 2, 4]), False)
        self.assertIs(shows_ends(widths, lengths, 0, [2, 3, 3, 4]), False)
        self.assertIs(shows_ends(widths, lengths, 0, [2, 2, 4]), False)
        # Things are left behind the last one, and shelves, too.
        self.assertIs(shows_ends(widths, lengths, 0, [2, 3]), False)
        self.assertIs(shows_ends(widths, lengths, 0, []), False)
        # More ends than shelves, and ends that fall or go beyond.
        self.assertIs(shows_ends(widths, lengths[:2], 0, [2, 3]), True)
        self.assertIs(shows_ends(widths, lengths[:2], 0, [2, 3, 4]), False)
        self.assertIs(shows_ends(widths, lengths, 0, [2, 1, 4]), False)
        self.assertIs(shows_ends(widths, lengths, 0, [2, 3, 5]), False)
        self.assertIs(shows_ends(widths, lengths, 0, [-1, 2, 4]), False)

    def test_a_shelf_that_is_shorter_than_the_keep(self):
        self.assertIs(shows_ends([2, 2], [3, 9], 4, [0, 2]), True)
        self.assertIs(shows_ends([2, 2], [3, 9], 4, [1, 2]), False)
        self.assertIs(shows_ends([2, 2], [3, 3], 4, [0, 0]), True)
        self.assertIs(shows_ends([2, 2], [3, 3], 4, [0]), False)

    def test_truths_are_no_ends(self):
        self.assertIs(shows_ends([3], [3], 0, [1]), True)
        self.assertIs(shows_ends([3], [3], 0, [True]), False)
        self.assertIs(shows_ends([3], [2], 0, [0]), True)
        self.assertIs(shows_ends([3], [2], 0, [False]), False)
        self.assertIs(shows_ends([3, 3], [3, 3], 0, [True, 2]), False)

    def test_any_thing(self):
        for thing in ODD_THINGS + NO_WHOLES + [{0: 1}, "1", [1, None], [[1]], [(1,)], ["1"], [THIRTY_FIGURES]]:
            self.assertIs(shows_ends([3, 3], [3, 3], 0, thing), False)
            self.assertIs(shows_ends([3], [2, 9], 0, thing), False)
            if thing != []:
                self.assertIs(shows_ends([], [3], 0, thing), False)
                self.assertIs(shows_ends([3], [], 0, thing), False)

    def test_by_the_words(self):
        for widths, lengths in some_rows(2, 60):
            for keep in [0, 2]:
                shown = []
                for many in range(len(lengths) + 2):
                    for ends in itertools.product(range(len(widths) + 1), repeat=min(many, 4)):
                        told = shows_ends(widths, lengths, keep, list(ends))
                        self.assertIs(told, shows_by_the_words(widths, lengths, keep, list(ends)))
                        if told and list(ends) not in shown:
                            shown.append(list(ends))
                self.assertEqual(shown, [cut_fewest(widths, lengths, keep)[1]])


class FewestForTest(Case):
    def test_told_cases(self):
        for widths, lengths, keep, spare, told in [
                ([], [], 0, 0, (0, [])), ([], [], 0, 1, None), ([], [5, 5], 0, 0, (0, [])), ([], [5, 5], 9, 0, (0, [])),
                ([], [5, 5], 0, 1, (1, [0])), ([], [5, 5], 0, 5, (1, [0])), ([], [5, 5], 0, 6, (2, [0, 0])),
                ([], [5, 5], 0, 10, (2, [0, 0])), ([], [5, 5], 0, 11, None), ([5], [], 0, 0, None),
                ([3, 3], [6, 6, 6], 0, 0, (1, [2])), ([3, 3], [6, 6, 6], 0, 1, (2, [2, 2])),
                ([3, 3], [6, 6, 6], 0, 6, (2, [2, 2])), ([3, 3], [6, 6, 6], 0, 7, (3, [2, 2, 2])),
                ([3, 3], [6, 6, 6], 0, 12, (3, [2, 2, 2])), ([3, 3], [6, 6, 6], 0, 13, None),
                ([3, 3], [6, 6, 6], 3, 0, (2, [1, 2])), ([3, 3], [6, 6, 6], 3, 6, (2, [1, 2])),
                ([3, 3], [6, 6, 6], 3, 7, (3, [1, 2, 2])), ([3, 3], [6, 6, 6], 4, 0, None),
                ([3, 3], [2, 7, 1, 1], 0, 0, (2, [0, 2])), ([3, 3], [2, 7, 1, 1], 0, 3, (2, [0, 2])),
                ([3, 3], [2, 7, 1, 1], 0, 4, (3, [0, 2, 2])), ([3, 3], [2, 7, 1, 1], 0, 5, (4, [0, 2, 2, 2])),
                ([3, 3], [2, 7, 1, 1], 0, 6, None), ([3, 3], [5], 0, 0, None),
                ([1], [999] * 40, 998, 39959, (40, [1] * 40)),
                ([1], [999] * 40, 0, 39960, None), ([1], [999] * 40, 0, 99999, None)]:
            answer = fewest_for(widths, lengths, keep, spare)
            self.assertEqual(answer, told, (widths, lengths, keep, spare))
            if told is not None:
                self.assertEqual([type(answer), type(answer[0]), type(answer[1])], [tuple, int, list])

    def test_no_spare(self):
        for thing in NO_WHOLES + [-1, 100000, True, False, None, "0", [0]]:
            self.assert_found(NoNumber, thing, fewest_for, [5], [5], 0, thing)
            self.assert_found(NoNumber, thing, fewest_for, [], [], 0, thing)
            # It is refused where the shelves don't hold all, too.
            self.assert_found(NoNumber, thing, fewest_for, [5], [4], 0, thing)

    def test_by_the_words(self):
        for widths, lengths in some_rows(3, 120):
            for keep, spare in itertools.product([0, 1, 3], [0, 1, 2, 5, 9, 17]):
                word, ends = cut_fewest(widths, lengths, keep)
                told = None
                for many in range(len(lengths), -1, -1):
                    held = cut_fewest(widths, lengths[:many], keep)[0] == "all"
                    if held and sum(lengths[:many]) - sum(widths) >= spare:
                        told = (many, ends + [len(widths)] * (many - len(ends)))
                self.assertEqual(fewest_for(widths, lengths, keep, spare), told)

    def test_what_is_told_is_new_each_time(self):
        self.assert_new_each_time(lambda: fewest_for([3, 3], [6, 6, 6], 0, 7)[1])
        self.assert_new_each_time(lambda: fewest_for([], [5], 0, 0)[1])


class CutSpreadTest(Case):
    def test_told_cases(self):
        for widths, lengths, told in [
                ([], [5], (5, [0], None)), ([], [5, 3, 9], (3, [0, 0, 0], None)), ([5], [5], (0, [1], [0])),
                ([5], [5, 9], (4, [0, 1], [0, 0])), ([5], [5, 10], (5, [0, 1], None)),
                ([5], [5, 11], (5, [0, 1], None)),
                ([5], [9, 1], (1, [1, 1], None)), ([5], [9, 5], (4, [1, 1], [0, 0])),
                ([3, 3], [5, 5], (2, [1, 2], [0, 0])), ([3, 3], [9, 9], (6, [1, 2], [0, 0])),
                ([3, 3], [9, 9, 9], (6, [1, 2, 2], [0, 0, 0])), ([3, 3, 3], [9, 9], (3, [2, 3], [1, 2])),
                ([3, 3, 3], [9, 9, 1], (1, [2, 3, 3], None)), ([3, 3, 3], [1, 9, 9], (1, [0, 2, 3], None)),
                ([3, 3, 3], [9], (0, [3], [2])), ([99], [999], (900, [1], [0])), ([1], [999], (998, [1], [0])),
                ([1], [998, 999], (998, [0, 1], None)), ([], [999] * 40, (999, [0] * 40, None))]:
            answer = cut_spread(widths, lengths)
            self.assertEqual(answer, told, (widths, lengths))
            kinds = [tuple, int, list, type(None) if told[2] is None else list]
            self.assertEqual([type(answer)] + [type(thing) for thing in answer], kinds)
            self.assertIs(shows_spread(widths, lengths, *answer), True)

    def test_no_room(self):
        for widths, lengths, most in [([5], [4], 0), ([5, 5], [5, 4], 1), ([5, 5], [5, 4, 4], 1),
                                      ([1] * 60, [1] * 40, 40),
                                      ([1, 1, 9, 1], [3, 3, 3], 2), ([9, 1], [8], 0)]:
            self.assert_found(NoRoom, most, cut_spread, widths, lengths)
            self.assert_found(NoRoom, most, cut_spread, tuple(widths), tuple(lengths))

    def test_by_all_cuttings(self):
        done, refused = 0, 0
        for widths, lengths in some_rows(4, 250):
            if lengths:
                cuttings = list(all_cuttings(widths, lengths, 0))
                held = [ends for ends in cuttings if ends[-1] == len(widths)]
                if not held:
                    self.assert_found(NoRoom, max(ends[-1] for ends in cuttings), cut_spread, widths, lengths)
                    refused += 1
                    continue
                free, ends, more = cut_spread(widths, lengths)
                self.assertEqual(free, max(free_length(widths, lengths, ends) for ends in held))
                self.assertIn(ends, held)
                fewest = cut_fewest(widths, lengths, free)[1]
                self.assertEqual(ends, fewest + [len(widths)] * (len(lengths) - len(fewest)))
                self.assertEqual(more is None, free == min(lengths))
                if more is not None:
                    self.assertEqual(("short", more), cut_fewest(widths, lengths, free + 1))
                self.assertIs(shows_spread(widths, lengths, free, ends, more), True)
                done += 1
        self.assertGreater(done, 50)
        self.assertGreater(refused, 50)

    def test_what_is_told_is_new_each_time(self):
        self.assert_new_each_time(lambda: cut_spread([3, 3], [5, 5])[1])
        self.assert_new_each_time(lambda: cut_spread([3, 3], [5, 5])[2])
        _, ends, more = cut_spread([5], [5])
        self.assertIsNot(ends, more)


class ShowsSpreadTest(Case):
    def test_another_cutting_by_which_as_much_stays_free(self):
        self.assertEqual(cut_spread([3, 3, 3], [9, 9]), (3, [2, 3], [1, 2]))
        self.assertIs(shows_spread([3, 3, 3], [9, 9], 3, [1, 3], [1, 2]), True)
        self.assertIs(shows_spread([3, 3, 3], [9, 9], 3, [3, 3], [1, 2]), False)
        self.assertIs(shows_spread([3, 3, 3], [9, 9], 3, [0, 3], [1, 2]), False)
        self.assertIs(shows_spread([1], [4, 9], 4, [0, 1], None), True)
        self.assertIs(shows_spread([1], [9, 9, 4], 4, [0, 1, 1], None), True)
        self.assertIs(shows_spread([1], [9, 9, 4], 4, [1, 1, 1], None), True)
        self.assertIs(shows_spread([1], [9, 9, 4], 4, [0, 0, 1], None), False)

    def test_another_free_length(self):
        self.assertIs(shows_spread([3, 3, 3], [9, 9], 3, [2, 3], [1, 2]), True)
        for free in [0, 1, 2, 4, 5, 9, 10]:
            self.assertIs(shows_spread([3, 3, 3], [9, 9], free, [2, 3], [1, 2]), False)
            ends = cut_fewest([3, 3, 3], [9, 9], free + 1)[1]
            self.assertIs(shows_spread([3, 3, 3], [9, 9], free, [2, 3], ends), False)
            self.assertIs(shows_spread([3, 3, 3], [9, 9], free, [2, 3], None), False)
        for thing in NO_WHOLES + [True, False, None, "3", [3]]:
            self.assertIs(shows_spread([3, 3, 3], [9, 9], thing, [2, 3], [1, 2]), False)
        self.assertIs(shows_spread([5], [5], False, [1], [0]), False)
        self.assertIs(shows_spread([5], [5], 0, [1], [0]), True)
        self.assertIs(shows_spread([5], [6, 1], True, [1, 1], None), False)
        self.assertIs(shows_spread([5], [6, 1], 1, [1, 1], None), True)

    def test_other_ends(self):
        for ends in [[2], [3], [2, 2], [2, 3, 3], [], [3, 2], [2, 4], [-1, 3], (2, 3), None, [2, None], [2, "3"], "23",
                     {2: 3}, [[2], [3]], [1, 2], [0, 0], [THIRTY_FIGURES, 3]]:
            self.assertIs(shows_spread([3, 3, 3], [9, 9], 3, ends, [1, 2]), False, ends)
        for thing in ODD_THINGS:
            self.assertIs(shows_spread([3, 3, 3], [9, 9], 3, thing, [1, 2]), False)
        self.assertIs(shows_spread([5], [5], 0, [True], [0]), False)
        self.assertIs(shows_spread([5], [6, 1], 1, [1, True], None), False)
        self.assertIs(shows_spread([5, 5], [9, 9, 9], 4, [1, 2, 2], [0, 0, 0]), True)
        self.assertIs(shows_spread([5, 5], [9, 9, 9], 4, [1, 0, 2], [0, 0, 0]), False)
        self.assertIs(shows_spread([5, 5], [9, 9, 9], 4, [1, 2, 1], [0, 0, 0]), False)
        # Ends that fall, though on each shelf enough stays free.
        self.assertIs(shows_spread([1, 1], [9, 9, 9, 9], 8, [1, 1, 1, 2], [0, 0, 0, 0]), True)
        self.assertIs(shows_spread([1, 1], [9, 9, 9, 9], 8, [1, 0, 1, 2], [0, 0, 0, 0]), False)

    def test_other_mores(self):
        for more in [None, [1], [2, 3], [0, 0], [1, 3], [1, 2, 3], [], (1, 2), [True, 2], ["1", 2], [1, None], {1: 2}]:
            self.assertIs(shows_spread([3, 3, 3], [9, 9], 3, [2, 3], more), False, more)
        for thing in ODD_THINGS:
            self.assertIs(shows_spread([3, 3, 3], [9, 9], 3, [2, 3], thing), False)
            if thing is not None:
                self.assertIs(shows_spread([1], [4, 9], 4, [0, 1], thing), False)
        for more in [[0, 1], [0, 0], [1, 1], [], False, 0]:
            self.assertIs(shows_spread([1], [4, 9], 4, [0, 1], more), False)
        self.assertIs(shows_spread([5], [5], 0, [1], [False]), False)

    def test_a_more_by_which_all_things_stand(self):
        # With a keep of one more all things stand still, so that these ends show nothing.
        self.assertIs(shows_spread([3, 3, 3], [9, 9], 2, [2, 3], [2, 3]), False)
        self.assertIs(shows_spread([], [5, 5], 4, [0, 0], []), False)
        self.assertIs(shows_spread([], [5, 5], 4, [0, 0], None), False)
        self.assertIs(shows_spread([], [5, 5], 5, [0, 0], None), True)
        self.assertIs(shows_spread([], [5, 5], 5, [], None), False)

    def test_where_the_shelves_do_not_hold_all(self):
        for free, ends, more in [(0, [1, 1], [0, 0]), (0, [0, 0], [0, 0]), (0, [0, 1], None), (0, [1, 2], [0, 0])]:
            self.assertIs(shows_spread([5, 5], [5, 4], free, ends, more), False)

    def test_where_any_thing_shows_it_the_first_is_the_greatest(self):
        for widths, lengths in some_rows(5, 40):
            if lengths:
                held = [ends for ends in all_cuttings(widths, lengths, 0) if ends[-1] == len(widths)]
                for free in range(min(lengths) + 2):
                    more = cut_fewest(widths, lengths, free + 1)[1]
                    for ends in all_cuttings(widths, lengths, 0):
                        for last in [None, more]:
                            told = shows_spread(widths, lengths, free, ends, last)
                            due = (ends in held and free_length(widths, lengths, ends) >= free
                                   and free == cut_spread(widths, lengths)[0]
                                   and (last is None) == (free == min(lengths)))
                            self.assertIs(told, due, (widths, lengths, free, ends, last))


if __name__ == "__main__":
    unittest.main()
