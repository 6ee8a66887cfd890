"""Points 70 to 77, loads and carts of point 7, and what is handed in of points 4, 5 and 6."""

import itertools
import unittest

from shelvesmoved.carts import days_left, fewest_carts, loads, shows_carts, shows_loads, shows_never
from shelvesmoved.errors import NoList, NoNumber, Outside, TooWide, Unlike
from tests.things import ODD_NUMBERS, ODD_THINGS, THIRTY_FIGURES, Case, Numbers

NO_WHOLES = ODD_NUMBERS + [True, False, None, "5", "", [], (), [5], (5,), {}, {5: 5}, NoList(5)]
NO_LISTS = [thing for thing in ODD_THINGS if thing != [] and thing != ()] + ODD_NUMBERS + [0, 5, "5", {5: 5}]

# (groups, capacity, what loads tells)
LOADED = [
    ([], 1, []), ([[]], 1, [[]]), ([[], []], 999, [[], []]), ([[1]], 1, [[1]]), ([[1, 1]], 1, [[1, 2]]),
    ([[1, 1]], 2, [[2]]), ([[3, 3, 3]], 6, [[2, 3]]), ([[3, 3, 3]], 5, [[1, 2, 3]]), ([[3, 3, 3]], 8, [[2, 3]]),
    ([[3, 3, 3]], 9, [[3]]), ([[3], [3], [3]], 9, [[1], [1], [1]]), ([[3, 3], [], [6, 1, 5]], 6, [[2], [], [1, 3]]),
    ([[1, 6, 1, 5, 5]], 6, [[1, 2, 4, 5]]), ([[99] * 60], 99, [list(range(1, 61))]),
    ([[99] * 60], 198, [list(range(2, 61, 2))]), ([[99] * 60], 990, [[10, 20, 30, 40, 50, 60]]),
    ([[99] * 60], 989, [[9, 18, 27, 36, 45, 54, 60]]), ([[1] * 60] * 12, 60, [[60]] * 12),
    ([[1] * 60] * 12, 59, [[59, 60]] * 12), ([[1, 99]], 999, [[2]]),
]

# (counts, windows, days, what days_left tells, what fewest_carts tells)
CARTED = [
    ([], [], 1, [], ("carts", 0, [], None)),
    ([0], [(1, 1)], 1, [None], ("carts", 0, [], None)),
    ([0, 0], [(5, 9), (1, 2)], 9, [None, None], ("carts", 0, [], None)),
    ([1], [(1, 1)], 1, [(1, 1)], ("carts", 1, [1], (1, 1))),
    ([1], [(3, 5)], 60, [(3, 5)], ("carts", 1, [3], (1, 5))),
    ([3], [(2, 3)], 9, [(2, 3)], ("carts", 2, [2, 2, 3], (2, 3))),
    ([4], [(2, 3)], 9, [(2, 3)], ("carts", 2, [2, 2, 3, 3], (1, 3))),
    ([5], [(2, 3)], 9, [(2, 3)], ("carts", 3, [2, 2, 2, 3, 3], (2, 3))),
    ([2, 2], [(1, 2), (1, 4)], 4, [(1, 2), (1, 4)], ("carts", 1, [1, 2, 3, 4], (1, 2))),
    ([2, 2], [(1, 4), (1, 2)], 4, [(1, 2), (1, 2)], ("carts", 2, [1, 1, 2, 2], (1, 2))),
    ([2, 2], [(3, 4), (1, 4)], 4, [(3, 4), (3, 4)], ("carts", 2, [3, 3, 4, 4], (2, 4))),
    ([1, 0, 1], [(3, 4), (1, 1), (1, 4)], 4, [(3, 4), None, (3, 4)], ("carts", 1, [3, 4], (1, 4))),
    ([1, 0, 1], [(1, 3), (9, 9), (2, 2)], 9, [(1, 2), None, (2, 2)], ("carts", 1, [1, 2], (1, 2))),
    ([1, 1], [(2, 2), (1, 1)], 2, [(2, 1), (2, 1)], ("never", (0, 1))),
    ([1, 1], [(2, 5), (1, 2)], 5, [(2, 2), (2, 2)], ("carts", 2, [2, 2], (2, 2))),
    ([1, 0, 1, 1], [(4, 9), (9, 9), (2, 9), (1, 3)], 9, [(4, 3), None, (4, 3), (4, 3)], ("never", (0, 3))),
    ([1, 1, 1, 1], [(1, 9), (4, 9), (5, 9), (1, 3)], 9, [(1, 3), (4, 3), (5, 3), (5, 3)], ("never", (1, 3))),
    ([1, 1, 1, 1], [(6, 9), (7, 9), (1, 6), (1, 1)], 9, [(6, 1), (7, 1), (7, 1), (7, 1)], ("never", (1, 2))),
    ([0, 1, 1], [(9, 9), (1, 9), (1, 3)], 9, [None, (1, 3), (1, 3)], ("carts", 1, [1, 2], (1, 3))),
    ([1, 1, 0], [(1, 9), (5, 9), (1, 1)], 9, [(1, 9), (5, 9), None], ("carts", 1, [1, 5], (1, 9))),
]

NO_WINDOWS = [(0, 1), (0, 0), (2, 1), (60, 1), (1, 61), (61, 61), (-1, 5), [1, 2], (1,), (1, 2, 3), (), (True, 2),
              (1, True), (None, 1), (1, None), ("1", 2), ((1,), 2), (1, [2]), (THIRTY_FIGURES, THIRTY_FIGURES)]

NO_DAYS = NO_WHOLES + [0, 61, -5, "1", (1, 1), [60], 100]


def least_loads(widths, capacity):
    """By how few loads a group goes, by all ways to part it."""
    for many in range(len(widths) + 1):
        for ends in itertools.combinations(range(1, len(widths)), max(many - 1, 0)):
            begins, behind = (0,) + ends, ends + (len(widths),)
            if many > 0 and all(sum(widths[begin:end]) <= capacity for begin, end in zip(begins, behind)):
                return many
        if many == 0 and len(widths) == 0:
            return 0
    return None


def some_days(begin, many):
    """Small counts, windows and days of many kinds."""
    numbers = Numbers(begin)
    for _ in range(many):
        days = 1 + numbers.below(5)
        counts, windows = [], []
        for _ in range(numbers.below(5)):
            first = 1 + numbers.below(days)
            windows.append((first, first + numbers.below(days - first + 1)))
            counts.append(numbers.below(3))
        yield counts, windows, days


def all_schedules(counts, windows):
    """All rows of days by which the loads go in their order within the windows."""
    spans = [range(first, last + 1) for count, (first, last) in zip(counts, windows) for _ in range(count)]
    for schedule in itertools.product(*spans):
        if list(schedule) == sorted(schedule):
            yield list(schedule)


def carts_of(schedule):
    return max([schedule.count(day) for day in schedule], default=0)


def crossed(counts, windows):
    """All pairs of which 77 speaks, in the order in which 75 wants them."""
    places = range(len(counts))
    return [(one, other) for other in places for one in places
            if one < other and counts[one] and counts[other] and windows[one][0] > windows[other][1]]


def papers_of(counts, windows, days, many):
    """All papers of 75, in their order, by the days left by the words of 74."""
    left = []
    for place, count in enumerate(counts):
        if count:
            left.append((count, max(windows[at][0] for at in range(place + 1) if counts[at]),
                         min(windows[at][1] for at in range(place, len(counts)) if counts[at])))
    for begin in range(1, days + 1):
        for end in range(begin, days + 1):
            within = sum(count for count, first, last in left if begin <= first and last <= end)
            if within > (many - 1) * (end - begin + 1):
                yield (begin, end)


class GroupsHandedInTest(Case):
    def assert_both(self, kind, found, groups, capacity):
        self.assert_found(kind, found, loads, groups, capacity)
        for thing in [None, [], [[1]]]:
            self.assert_found(kind, found, shows_loads, groups, capacity, thing)

    def test_no_groups(self):
        for thing in ODD_THINGS + ODD_NUMBERS + [5, "abc", {1: [5]}, {}]:
            if not isinstance(thing, (list, tuple)):
                for capacity in [6, 0, None, thing]:
                    self.assert_both(NoList, thing, thing, capacity)

    def test_twelve_and_thirteen(self):
        for group in [[], [5], (5,)]:
            self.assertEqual(len(loads([group] * 12, 5)), 12)
            self.assertEqual(len(loads((group,) * 12, 5)), 12)
            for groups in [[group] * 13, (group,) * 13, [group] * 400]:
                self.assert_both(NoList, groups, groups, 5)
        groups = [None] * 13
        self.assert_both(NoList, groups, groups, None)

    def test_no_group(self):
        bad = NO_LISTS + [[0], [100], [5, 0], (100,), [5, 100], [1] * 61, (1,) * 61, [True], [False, 5], [None], ["5"],
                          [[5]], [-1], [THIRTY_FIGURES]]
        for thing in bad:
            for groups in [[thing], (thing,), [[5], thing], [[], thing, [100]], [[99], thing, None]]:
                for capacity in [5, 0, None]:
                    self.assert_both(NoList, thing, groups, capacity)

    def test_a_group_of_sixty(self):
        self.assertEqual(loads([[1] * 60], 999), [[60]])
        self.assertEqual(loads([(99,) * 60], 99), [list(range(1, 61))])

    def test_no_capacity(self):
        for thing in NO_WHOLES + [0, 1000, -1, "5", [5]]:
            for groups in [[], [[]], [[5], [99]], ([1] * 60,)]:
                self.assert_both(NoNumber, thing, groups, thing)

    def test_capacity_at_the_bounds(self):
        self.assertEqual(loads([[1, 1]], 1), [[1, 2]])
        self.assertEqual(loads([[99] * 20], 999), [[10, 20]])

    def test_the_first_width_that_is_too_wide(self):
        self.assert_both(TooWide, 7, [[6, 6], [], [5, 7, 9], [99]], 6)
        self.assert_both(TooWide, 99, [[99, 98]], 97)
        self.assert_both(TooWide, 98, ((98, 99),), 97)
        self.assert_both(TooWide, 2, [[1], [2], [3]], 1)
        self.assertEqual(loads([[6, 6], [], [5, 6]], 6), [[1, 2], [], [1, 2]])

    def test_the_order_of_refusals(self):
        groups = [None] * 13
        self.assert_both(NoList, groups, groups, None)
        self.assert_both(NoList, None, [[99], None], None)
        self.assert_both(NoNumber, "capacity", [[99], [5]], "capacity")
        self.assert_both(TooWide, 99, [[99], [5]], 1)


class LoadsTest(Case):
    def test_told_cases(self):
        for groups, capacity, told in LOADED:
            answer = loads(groups, capacity)
            self.assertEqual(answer, told, (groups, capacity))
            self.assertEqual({type(ends) for ends in answer} | {type(answer)}, {list})
            self.assertEqual({type(end) for ends in answer for end in ends} - {int}, set())

    def test_lists_and_tuples(self):
        for groups, capacity, told in LOADED:
            self.assertEqual(loads(tuple(groups), capacity), told)
            self.assertEqual(loads(tuple(tuple(group) for group in groups), capacity), told)
            self.assertEqual(loads([tuple(group) for group in groups], capacity), told)

    def test_no_fewer_by_all_ways(self):
        numbers = Numbers(21)
        for _ in range(200):
            widths = [1 + numbers.below(6) for _ in range(numbers.below(8))]
            capacity = 6 + numbers.below(6)
            ends = loads([widths], capacity)[0]
            self.assertEqual(len(ends), least_loads(widths, capacity))
            for begin, end in zip([0] + ends, ends):
                self.assertLess(begin, end)
                self.assertLessEqual(sum(widths[begin:end]), capacity)
                self.assertTrue(end == len(widths) or sum(widths[begin:end + 1]) > capacity)

    def test_lists_are_new_each_time(self):
        for groups, capacity, told in LOADED:
            self.assert_new_each_time(lambda: loads(groups, capacity))
            lists = loads(groups, capacity) + loads(groups, capacity)
            self.assertEqual(len({id(ends) for ends in lists}), 2 * len(told))
            for ends in lists:
                ends.append(None)
            self.assertEqual(loads(groups, capacity), told)

    def test_what_is_handed_in_stays(self):
        groups = [[3, 3], [], (5,)]
        told = loads(groups, 6)
        told[0].append(7)
        told[1].append(7)
        self.assertEqual(groups, [[3, 3], [], (5,)])


class ShowsLoadsTest(Case):
    def test_what_is_told_shows_it(self):
        for groups, capacity, told in LOADED:
            self.assertIs(shows_loads(groups, capacity, told), True)
            self.assertIs(shows_loads(tuple(groups), capacity, loads(groups, capacity)), True)

    def test_all_else_does_not(self):
        for groups, capacity, told in LOADED:
            others = [tuple(told), told + [[]], told[:-1] if told else [[]], [told], None, "", 0, {}, True]
            for at, ends in enumerate(told):
                for other in [ends + [ends[-1] if ends else 0], ends[:-1] if ends else [0], tuple(ends), None,
                              [True], ends[::-1] + [0], str(ends), {}]:
                    others.append(told[:at] + [other] + told[at + 1:])
            for thing in others:
                self.assertIs(shows_loads(groups, capacity, thing), False, (groups, capacity, thing))

    def test_more_loads_than_the_fewest(self):
        self.assertIs(shows_loads([[3, 3, 3]], 6, [[2, 3]]), True)
        for ends in [[1, 3], [1, 2, 3], [3], [0, 2, 3], [2, 2, 3], [2], [2, 3, 3], [3, 2], [-1, 2, 3]]:
            self.assertIs(shows_loads([[3, 3, 3]], 6, [ends]), False)

    def test_truths_are_no_ends(self):
        self.assertIs(shows_loads([[3]], 6, [[1]]), True)
        self.assertIs(shows_loads([[3]], 6, [[True]]), False)
        self.assertIs(shows_loads([[3, 3]], 3, [[True, 2]]), False)

    def test_any_thing(self):
        for thing in ODD_THINGS + NO_WHOLES + [{0: [1]}, [[THIRTY_FIGURES]], [["1"]], [[[1]]], [{0: 1}]]:
            self.assertIs(shows_loads([[3]], 6, thing), False)
            if thing != []:
                self.assertIs(shows_loads([], 6, thing), False)
            if thing != [[]]:
                self.assertIs(shows_loads([[]], 6, thing), False)


class DaysHandedInTest(Case):
    def assert_all(self, kind, found, counts, windows, days):
        for call, more in [(days_left, ()), (fewest_carts, ()), (shows_carts, (0, [], None)),
                           (shows_carts, (1, [1], (1, 1))), (shows_carts, (None, None, None)), (shows_never, (None,)),
                           (shows_never, ((0, 1),))]:
            self.assert_found(kind, found, call, counts, windows, days, *more)

    def test_no_counts(self):
        bad = NO_LISTS + [[-1], [61], [5, 61], (61,), [0] * 13, (0,) * 13, [True], [False, 5], [None], ["5"], [[5]],
                          [THIRTY_FIGURES], [1, 2, (3,)]]
        for thing in bad:
            for windows, days in [([], 1), ([(1, 1)], 1), (None, None), (thing, thing)]:
                self.assert_all(NoList, thing, thing, windows, days)

    def test_counts_at_the_bounds(self):
        self.assertEqual(fewest_carts([0, 60], [(1, 1), (1, 60)], 60)[1], 1)
        self.assertEqual(fewest_carts((60,), [(7, 7)], 60), ("carts", 60, [7] * 60, (7, 7)))
        self.assertEqual(days_left([0] * 12, [(1, 1)] * 12, 1), [None] * 12)

    def test_no_windows(self):
        bad = NO_LISTS + [[(1, 1)] * 13, ((1, 1),) * 13, (1, 2), "ab"]
        for thing in NO_WINDOWS:
            bad.extend([[thing], (thing,), [(1, 1), thing], [(9, 60), thing, (5, 4)]])
        for thing in bad:
            for counts in [[], [1], (1, 2, 3)]:
                for days in [1, 60, None]:
                    self.assert_all(NoList, thing, counts, thing, days)

    def test_windows_at_the_bounds(self):
        for window in [(1, 1), (1, 60), (60, 60), (30, 31)]:
            self.assertEqual(days_left([1], [window], 60), [window])
            self.assertEqual(days_left([1], (window,), 60), [window])

    def test_no_days(self):
        for thing in NO_DAYS:
            for counts, windows in [([], []), ([1], [(1, 1)]), ([1], []), ([1], [(60, 60)])]:
                self.assert_all(NoNumber, thing, counts, windows, thing)

    def test_days_at_the_bounds(self):
        self.assertEqual(days_left([], [], 1), [])
        self.assertEqual(days_left([], [], 60), [])

    def test_unlike(self):
        for counts, windows in [([], [(1, 1)]), ([1], []), ([1], [(9, 9), (1, 1)]), ((0, 0), ((1, 1),)), ([0], ())]:
            for days in [1, 5, 60]:
                self.assert_all(Unlike, windows, counts, windows, days)

    def test_outside(self):
        late = (3, 6)
        for counts in [[0, 0, 0], [1, 1, 1], (60, 0, 0)]:
            self.assert_all(Outside, late, counts, [(1, 5), late, (7, 8)], 5)
            self.assert_all(Outside, late, counts, ((5, 5), (1, 5), late), 5)
        first = (1, 2)
        self.assert_all(Outside, first, [1], [first], 1)
        last = (60, 60)
        self.assert_all(Outside, last, [1], [last], 59)
        self.assertEqual(days_left([1], [last], 60), [last])

    def test_the_order_of_refusals(self):
        counts, windows, days = ["counts"], ["windows"], ["days"]
        late = (9, 9)
        self.assert_all(NoList, counts, counts, windows, days)
        self.assert_all(NoList, windows, [1], windows, days)
        self.assert_all(NoNumber, days, [1], [late, late], days)
        both = [late, late]
        self.assert_all(Unlike, both, [1], both, 5)
        self.assert_all(Outside, late, [1, 1], [(1, 5), late], 5)

    def test_what_is_handed_in_stays(self):
        for counts, windows, days, _, _ in CARTED:
            ahead = (list(counts), list(windows))
            days_left(counts, windows, days)
            fewest_carts(counts, windows, days)
            self.assertEqual((counts, windows), ahead)


class DaysLeftTest(Case):
    def test_told_cases(self):
        for counts, windows, days, left, _ in CARTED:
            answer = days_left(counts, windows, days)
            self.assertEqual(answer, left, (counts, windows))
            self.assertEqual({type(window) for window in answer} - {tuple, type(None)}, set())
            self.assertEqual(days_left(tuple(counts), tuple(windows), days), left)
            self.assert_new_each_time(lambda: days_left(counts, windows, days))

    def test_by_the_words(self):
        for counts, windows, days in some_days(22, 300):
            told = days_left(counts, windows, days)
            self.assertEqual(len(told), len(counts))
            for place, count in enumerate(counts):
                if count == 0:
                    self.assertIs(told[place], None)
                    continue
                firsts = [window[0] for window, some in zip(windows[:place + 1], counts) if some]
                lasts = [window[1] for window, some in zip(windows[place:], counts[place:]) if some]
                self.assertEqual(told[place], (max(firsts), min(lasts)))

    def test_the_first_behind_the_last(self):
        self.assertEqual(days_left([1, 1], [(60, 60), (1, 1)], 60), [(60, 1), (60, 1)])


class FewestCartsTest(Case):
    def test_told_cases(self):
        for counts, windows, days, _, told in CARTED:
            answer = fewest_carts(counts, windows, days)
            self.assertEqual(answer, told, (counts, windows, days))
            self.assertEqual([type(thing) for thing in answer], [type(thing) for thing in told])
            self.assertEqual(fewest_carts(tuple(counts), tuple(windows), days), told)

    def test_by_all_rows_of_days(self):
        carted, never, papers = 0, 0, 0
        for counts, windows, days in some_days(23, 400):
            told = fewest_carts(counts, windows, days)
            schedules = list(all_schedules(counts, windows))
            pairs = crossed(counts, windows)
            self.assertEqual(schedules == [], told[0] == "never")
            self.assertEqual(pairs != [], told[0] == "never")
            if told[0] == "never":
                self.assertEqual(told, ("never", pairs[0]))
                never += 1
                continue
            _, many, schedule, paper = told
            self.assertEqual(many, min(map(carts_of, schedules)))
            if sum(counts) == 0:
                self.assertEqual(told, ("carts", 0, [], None))
                continue
            some = [other for other in schedules if carts_of(other) <= many]
            self.assertIn(schedule, some)
            # No load goes earlier in any of them.
            self.assertTrue(all(day <= earlier for other in some for day, earlier in zip(schedule, other)))
            self.assertEqual(paper, next(papers_of(counts, windows, days, many)))
            papers += len(list(papers_of(counts, windows, days, many))) > 1
            carted += 1
        self.assertGreater(min(carted, never, papers), 30)

    def test_the_least_pair_of_several(self):
        # By the least other, 2, then the least one, though the one 0 stands beside 3, too.
        told = fewest_carts([1, 1, 1, 1], [(9, 9), (8, 9), (3, 7), (1, 1)], 9)
        self.assertEqual(told, ("never", (0, 2)))
        told = fewest_carts([0, 1, 1, 1], [(9, 9), (8, 9), (3, 7), (1, 1)], 9)
        self.assertEqual(told, ("never", (1, 2)))
        self.assertEqual(fewest_carts([1, 1, 0, 1], [(9, 9), (8, 9), (3, 7), (1, 1)], 9), ("never", (0, 3)))

    def test_the_least_paper_of_several(self):
        counts, windows = [2, 2, 2], [(1, 2), (3, 3), (5, 5)]
        self.assertEqual(list(papers_of(counts, windows, 5, 2)), [(1, 3), (1, 5), (3, 3), (3, 5), (5, 5)])
        self.assertEqual(fewest_carts(counts, windows, 5), ("carts", 2, [1, 1, 3, 3, 5, 5], (1, 3)))
        # The least begin goes ahead of the least end.
        counts, windows = [4], [(3, 4)]
        self.assertEqual(list(papers_of(counts, windows, 9, 2)), [(2, 4), (3, 4), (3, 5)])
        self.assertEqual(fewest_carts(counts, windows, 9)[3], (2, 4))

    def test_the_earliest_days(self):
        self.assertEqual(fewest_carts([3, 1], [(1, 9), (9, 9)], 9)[2], [1, 2, 3, 9])
        self.assertEqual(fewest_carts([3, 4], [(1, 9), (9, 9)], 9)[2], [1, 1, 1, 9, 9, 9, 9])
        self.assertEqual(fewest_carts([1, 3, 1], [(1, 9), (2, 3), (3, 9)], 9)[2], [1, 2, 2, 3, 3])

    def test_twelve_runs_of_sixty_loads_on_sixty_days(self):
        told = fewest_carts([60] * 12, [(1, 60)] * 12, 60)
        self.assertEqual(told, ("carts", 12, [day for day in range(1, 61) for _ in range(12)], (1, 60)))
        self.assertIs(shows_carts([60] * 12, [(1, 60)] * 12, 60, *told[1:]), True)
        windows = [(5 * place + 1, 5 * place + 5) for place in range(12)]
        told = fewest_carts([60] * 12, windows, 60)
        self.assertEqual(told[:2] + told[3:], ("carts", 12, (1, 5)))
        windows = [(1 + place, 60) for place in range(12)]
        self.assertEqual(fewest_carts([60] * 12, windows, 60)[1], 12)
        told = fewest_carts([60] * 12, [(2, 60)] * 12, 60)
        self.assertEqual(told[:2] + told[3:], ("carts", 13, (2, 60)))
        self.assertEqual(fewest_carts([60] * 12, [(7, 7)] * 12, 60), ("carts", 720, [7] * 720, (7, 7)))
        self.assertIs(shows_carts([60] * 12, [(7, 7)] * 12, 60, 720, [7] * 720, (7, 7)), True)

    def test_lists_are_new_each_time(self):
        for counts, windows, days, _, told in CARTED:
            if told[0] == "carts":
                self.assert_new_each_time(lambda: fewest_carts(counts, windows, days)[2])


class ShowsCartsTest(Case):
    def test_what_is_told_shows_it(self):
        for counts, windows, days, _, told in CARTED:
            if told[0] == "carts":
                self.assertIs(shows_carts(counts, windows, days, *told[1:]), True)
                self.assertIs(shows_carts(tuple(counts), tuple(windows), days, *told[1:]), True)

    def test_other_schedules_and_papers(self):
        counts, windows = [4, 1], [(2, 3), (1, 5)]
        self.assertEqual(fewest_carts(counts, windows, 5), ("carts", 2, [2, 2, 3, 3, 4], (1, 3)))
        for schedule in [[2, 2, 3, 3, 4], [2, 2, 3, 3, 5]]:
            for paper in [(1, 3), (2, 3), (2, 4), (2, 5)]:
                self.assertIs(shows_carts(counts, windows, 5, 2, schedule, paper), True)
            for paper in [(1, 4), (1, 5), (3, 3), (3, 5)]:
                self.assertIs(shows_carts(counts, windows, 5, 2, schedule, paper), False)

    def test_each_condition_broken_by_itself(self):
        counts, windows, days = [3, 0, 1], [(2, 3), (9, 9), (1, 5)], 9
        good = [2, [2, 2, 3, 3], (2, 3)]
        self.assertIs(shows_carts(counts, windows, days, *good), True)
        # Many is another number: more than the paper shows, fewer than go on a day.
        for many in [0, 1, 3, 4, -1, THIRTY_FIGURES, True, None, "2", [2], (2,)]:
            self.assertIs(shows_carts(counts, windows, days, many, *good[1:]), False, many)
        # Too few days, too many, one falls, one lies ahead of its window or behind it, one is taken too often.
        for schedule in [[2, 2, 3], [2, 2, 3, 3, 3], [], [2, 3, 2, 3], [2, 2, 3, 2], [1, 2, 3, 3], [2, 2, 4, 4],
                         [2, 2, 3, 6], [2, 2, 2, 3], [2, 3, 3, 3], (2, 2, 3, 3), [2, 2, 3, True], [2, 2, 3, None],
                         [2, 2, 3, "3"], [2, 2, 3, [3]], None, 4, "2233", {0: 2, 1: 2, 2: 3, 3: 3}, [2, 2, 3, 60],
                         [2, 2, 3, THIRTY_FIGURES], [0, 2, 3, 3], [-1, 2, 3, 3]]:
            self.assertIs(shows_carts(counts, windows, days, 2, schedule, (2, 3)), False, schedule)
        # The paper's days hold too few loads, are turned about, lie beyond the days, or aren't days.
        for paper in [(2, 5), (1, 5), (3, 3), (2, 2), (3, 5), (3, 2), (0, 3), (2, 10), (1, 9), None, [2, 3], (2,),
                      (2, 3, 4), (), ("2", 3), (2, "3"), (2, None), (2, [3]), ((2, 3),), 2, "23", {2: 3}, (True, 3),
                      (-1, 3), (2, THIRTY_FIGURES)]:
            self.assertIs(shows_carts(counts, windows, days, 2, good[1], paper), False, paper)

    def test_truths_are_no_numbers(self):
        self.assertIs(shows_carts([1], [(1, 1)], 1, 1, [1], (1, 1)), True)
        for many, schedule, paper in [(True, [1], (1, 1)), (1, [True], (1, 1)), (1, [1], (True, 1)),
                                      (1, [1], (1, True))]:
            self.assertIs(shows_carts([1], [(1, 1)], 1, many, schedule, paper), False)
        self.assertIs(shows_carts([], [], 1, 0, [], None), True)
        self.assertIs(shows_carts([], [], 1, False, [], None), False)

    def test_no_loads(self):
        for counts, windows in [([], []), ([0], [(2, 3)]), ((0, 0), ((5, 5), (1, 1)))]:
            self.assertIs(shows_carts(counts, windows, 5, 0, [], None), True)
            for things in [(1, [], None), (0, [1], None), (0, (), None), (0, [], (1, 1)), (0, [], []), (None, [], None),
                           (0, None, None), (0, [], False), (0, [], ()), (-1, [], None), (0, {}, None), (0, "", None),
                           (False, [], None), (0, False, None), (1, [1], (1, 1))]:
                self.assertIs(shows_carts(counts, windows, 5, *things), False)

    def test_where_they_never_go(self):
        counts, windows = [1, 1], [(2, 2), (1, 1)]
        for many in [0, 1, 2]:
            for schedule in [[1, 1], [2, 2], [2, 1], [1, 2], []]:
                for paper in [(1, 1), (1, 2), (2, 2), None, (0, 1)]:
                    self.assertIs(shows_carts(counts, windows, 2, many, schedule, paper), False)

    def test_any_things(self):
        for thing in ODD_THINGS + NO_WHOLES:
            self.assertIs(shows_carts([3], [(2, 3)], 5, thing, [2, 2, 3], (2, 3)), False)
            self.assertIs(shows_carts([3], [(2, 3)], 5, 2, thing, (2, 3)), False)
            self.assertIs(shows_carts([3], [(2, 3)], 5, 2, [2, 2, 3], thing), False)
            self.assertIs(shows_carts([3], [(2, 3)], 5, thing, thing, thing), False)
            self.assertIs(shows_carts([0], [(2, 3)], 5, thing, [], None), False)
            if thing != []:
                self.assertIs(shows_carts([0], [(2, 3)], 5, 0, thing, None), False)
            if thing is not None:
                self.assertIs(shows_carts([0], [(2, 3)], 5, 0, [], thing), False)

    def test_by_the_words(self):
        shown = 0
        for counts, windows, days in some_days(24, 60):
            if sum(counts) == 0:
                continue
            schedules = list(all_schedules(counts, windows))
            for many in range(1, 5):
                papers = list(papers_of(counts, windows, days, many))
                for schedule in itertools.combinations_with_replacement(range(1, days + 1), sum(counts)):
                    schedule = list(schedule)
                    for paper in [(1, days), (1, 1), (days, days), (1, (days + 1) // 2)]:
                        wanted = schedule in schedules and carts_of(schedule) <= many and paper in papers
                        self.assertIs(shows_carts(counts, windows, days, many, schedule, paper), wanted)
                        shown += wanted
                        if wanted:
                            self.assertEqual(fewest_carts(counts, windows, days)[1], many)
        self.assertGreater(shown, 50)


class ShowsNeverTest(Case):
    def test_what_is_told_shows_it(self):
        for counts, windows, days, _, told in CARTED:
            if told[0] == "never":
                self.assertIs(shows_never(counts, windows, days, told[1]), True)
                self.assertIs(shows_never(tuple(counts), tuple(windows), days, told[1]), True)
                self.assertIs(shows_never(counts, windows, days, list(told[1])), False)

    def test_each_condition_broken_by_itself(self):
        counts, windows = [1, 0, 2, 1, 0], [(5, 9), (9, 9), (3, 4), (1, 5), (1, 1)]
        shown = [(one, other) for one in range(-1, 7) for other in range(-1, 7)
                 if shows_never(counts, windows, 9, (one, other))]
        # (0, 3) has one day in common, (1, 2) and (0, 4) have a run without loads, (2, 0) is turned about.
        self.assertEqual(shown, [(0, 2)])
        self.assertIs(shows_never([1, 0, 2, 1, 0], [(6, 9)] + windows[1:], 9, (0, 3)), True)
        self.assertIs(shows_never([1, 1, 2, 1, 1], windows, 9, (1, 2)), True)
        self.assertIs(shows_never([1, 1, 2, 1, 1], windows, 9, (2, 1)), False)
        self.assertIs(shows_never([1, 1, 2, 1, 1], windows, 9, (0, 4)), True)
        self.assertIs(shows_never([1, 1, 2, 1, 1], windows, 9, (0, 0)), False)

    def test_truths_are_no_places(self):
        for paper in [(False, True), (0, True), (False, 1)]:
            self.assertIs(shows_never([1, 1], [(2, 2), (1, 1)], 2, paper), False)
        self.assertIs(shows_never([1, 1], [(2, 2), (1, 1)], 2, (0, 1)), True)

    def test_any_thing(self):
        for thing in ODD_THINGS + NO_WHOLES + [(0,), (0, 1, 1), (0, None), ("0", 1), ([0], 1), ((0, 1),), (0, -1),
                                               (-2, -1), (0, THIRTY_FIGURES), (0, 2), (2, 3), "01", {0: 1}, [0, 1]]:
            self.assertIs(shows_never([1, 1], [(2, 2), (1, 1)], 2, thing), False)
            self.assertIs(shows_never([], [], 2, thing), False)

    def test_by_the_words(self):
        for counts, windows, days in some_days(25, 200):
            pairs = crossed(counts, windows)
            for paper in itertools.product(range(-1, len(counts) + 1), repeat=2):
                self.assertIs(shows_never(counts, windows, days, paper), paper in pairs)


if __name__ == "__main__":
    unittest.main()
