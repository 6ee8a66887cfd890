"""Points 60 to 66, plans of point 7, and what is handed in of points 4, 5 and 6."""

import itertools
import unittest

from shelvesmoved.errors import (Crossed, Lost, NoName, NoNumber, NoRoom, NoShelf, ShelvesError, Taken, TooMany,
                                 Unknown)
from shelvesmoved.plans import Plan, most_years, planned
from shelvesmoved.runs import Scheme
from shelvesmoved.shelves import House, house_of
from tests.things import ODD_NUMBERS, ODD_THINGS, Case, Numbers, is_as_promised, names, stock_of

NO_YEARS = ODD_THINGS + ODD_NUMBERS + [-1, 100, 101, True, False, None, "5", "0", [0], (0,), {0: 0}]


def group(letter, size, widths):
    """Volumes of one size whose marks and names begin with a letter, in order."""
    return [(letter + name, letter, size, width) for name, width in zip(names(len(widths)), widths)]


def case(runs, *groups):
    return Scheme(runs), stock_of([volume for volumes in groups for volume in volumes])


def widths_on(plan):
    return [[volume[3] for volume in row] for _, row in plan.rows()]


def all_of(plan):
    """All that a plan tells of itself."""
    told = [run[0] for run in plan.runs()]
    return [plan.told(), [plan.gap(name) for name in told], [plan.fills(name) for name in told],
            [plan.volumes_of(name) for name in told], plan.rows(), plan.house().rows(), plan.house().shelves(),
            plan.used(), plan.years(), plan.runs(), plan.volumes(), plan.shelves()]


def cuttings(widths, lengths, keep):
    """All cuttings that have all things on the shelves and fit with the keep."""
    for ends in itertools.combinations_with_replacement(range(len(widths) + 1), len(lengths)):
        parts = [widths[begin:end] for begin, end in zip((0,) + ends, ends)]
        if (ends or (0,))[-1] != len(widths):
            continue
        if all(part == [] or sum(part) <= length - keep for part, length in zip(parts, lengths)):
            yield parts


def filled(widths, lengths, keep):
    """On each shelf as many things as can stand there with the keep free."""
    rest, parts = list(widths), []
    for length in lengths:
        part = []
        while rest and sum(part) + rest[0] <= length - keep:
            part.append(rest.pop(0))
        parts.append(part)
    return parts


def spread(widths, lengths, keep):
    """What stands on each shelf of an even plan, from all ways."""
    some = [length for length in lengths if length >= keep]
    if some == []:
        return [[] for _ in lengths]
    free = max(min(length - sum(part) for length, part in zip(some, parts)) for parts in cuttings(widths, some, 0))
    parts = filled(widths, some, free)
    return [parts.pop(0) if length >= keep else [] for length in lengths]


def plan_by_the_words(runs, groups, shelves, years, even):
    """For each run, in order, the shelves that it has, and what stands there; or the refusal."""
    at, told = 0, []
    for (name, size, _, growth, keep, wanted), widths in zip(runs, groups):
        begin = at
        if wanted is not None:
            if wanted not in [shelf[0] for shelf in shelves]:
                return (Unknown, wanted)
            begin = [shelf[0] for shelf in shelves].index(wanted)
            if begin < at:
                return (Crossed, name)
        some = [place for place in range(begin, len(shelves)) if shelves[place][1] >= size]
        for many in range(len(some) + 1):
            lengths = [shelves[place][2] for place in some[:many]]
            if sum(lengths) - sum(widths) >= growth * years and list(cuttings(widths, lengths, keep)) != []:
                break
        else:
            return (NoRoom, name)
        if many > 0:
            at = some[many - 1] + 1
        stands = spread(widths, lengths, keep) if even else filled(widths, lengths, keep)
        told.append(([shelves[place][0] for place in some[:many]], stands))
    return told


def some_cases(begin, many, most_shelves):
    """Small cases of many kinds: runs in order, their widths, shelves, years."""
    numbers = Numbers(begin)
    for _ in range(many):
        there = names(numbers.below(most_shelves + 1))
        shelves = [(name, 1 + numbers.below(2), 3 + numbers.below(8)) for name in there]
        runs, groups = [], []
        for place in range(numbers.below(4)):
            at = numbers.one_of([None, None, None, "aa", "ab", "ac", "zz"])
            size = 1 if place < 2 else 2
            runs.append(("run" + "abc"[place], size, "abc"[place], numbers.below(4), numbers.below(4), at))
            groups.append([1 + numbers.below(5) for _ in range(numbers.below(4))])
        yield runs, groups, shelves, numbers.below(4)


def case_of(runs, groups):
    return case(runs, *[group(run[2], run[1], widths) for run, widths in zip(runs, groups)])


class RefusedTest(Case):
    def assert_both(self, kind, fields, scheme, stock, shelves, years):
        ahead = (scheme.runs(), stock.volumes())
        for more in [(), (False,), (True,)]:
            self.assert_refused(kind, fields, planned, scheme, stock, shelves, years, *more)
        self.assert_refused(kind, fields, most_years, scheme, stock, shelves, years)
        self.assertEqual((scheme.runs(), stock.volumes()), ahead)

    def assert_plan(self, kind, found, scheme, stock, shelves, years):
        """No plan, whether it is even or not; and where it is so for no years, no most years."""
        for more in [(), (False,), (True,)]:
            self.assert_found(kind, found, planned, scheme, stock, shelves, years, *more)
        if years == 0:
            self.assertIs(most_years(scheme, stock, shelves, 0), None)
            self.assertIs(most_years(scheme, stock, shelves, 99), None)

    def test_shelves(self):
        scheme, stock = case([("ra", 2, None, 0, 0, "zz")], group("a", 1, [5]))
        for thing in ODD_THINGS + ODD_NUMBERS + [("sa", 1, 1), {"sa": 1}, House([])]:
            if not isinstance(thing, (list, tuple)):
                self.assert_both(NoShelf, {"found": thing}, scheme, stock, thing, None)
            elif thing not in ([], ()):
                with self.assertRaises(ShelvesError):
                    planned(scheme, stock, thing, 0)
        good = ("sa", 1, 1)
        for years in [0, -1, None]:
            self.assert_both(TooMany, {"count": 41}, scheme, stock, [None] * 41, years)
            self.assert_both(NoShelf, {"found": None}, scheme, stock, [good, None], years)
            self.assert_both(NoName, {"found": "A"}, scheme, stock, (good, ("A", 1, 1)), years)
            self.assert_both(Taken, {"found": "sa"}, scheme, stock, [good, ("sa", 0, 0)], years)
            self.assert_both(NoNumber, {"found": 10}, scheme, stock, [good, ("sb", 10, 0)], years)
            self.assert_both(NoNumber, {"found": 1000}, scheme, stock, [good, ("sb", 9, 1000)], years)

    def test_years(self):
        lost = case([("ra", 2, None, 0, 0, "zz")], group("a", 1, [5]))
        for scheme, stock in [lost, case([]), case([("ra", 1, None, 0, 0, None)], group("a", 1, [5]))]:
            for shelves in [[], [("sa", 1, 4)], (("sa", 1, 4),)]:
                for thing in NO_YEARS:
                    self.assert_both(NoNumber, {"found": thing}, scheme, stock, shelves, thing)

    def test_years_at_the_bounds(self):
        scheme, stock = case([("ra", 1, None, 1, 0, None)])
        self.assertEqual(planned(scheme, stock, [("sa", 1, 99)], 0).used(), 0)
        self.assertEqual(planned(scheme, stock, [("sa", 1, 99)], 99).used(), 1)
        self.assertEqual(most_years(scheme, stock, [("sa", 1, 99)], 99), 99)
        self.assertEqual(most_years(scheme, stock, [("sa", 1, 99)], 0), 0)

    def test_the_first_lost_volume(self):
        scheme = Scheme([("ra", 1, "b", 0, 0, "zz"), ("rb", 3, None, 9, 0, "zz")])
        stock = stock_of([("va", "b", 3, 9), ("vb", "b", 1, 9), ("vd", "a", 2, 9), ("vc", "a.5", 1, 9),
                          ("ve", "10", 1, 9), ("vf", "9", 1, 9)])
        for name in ["vf", "ve", "vc", "vd"]:
            for years in [0, 5, 99]:
                self.assert_both(Lost, {"found": name}, scheme, stock, [], years)
            stock.drop(name)
        self.assert_plan(Unknown, "zz", scheme, stock, [], 0)
        self.assert_both(Lost, {"found": "aa"}, Scheme([]), stock_of([("aa", "a", 1, 1)]), [], 0)

    def test_unknown_crossed_no_room_run_by_run(self):
        shelves = [("sa", 9, 10), ("sb", 9, 10), ("sc", 9, 10)]
        wide = group("b", 1, [9, 9, 9])
        # Unknown of the first run that has such a shelf, though one behind it goes nowhere.
        scheme, stock = case([("ra", 1, None, 0, 0, "zy"), ("rb", 1, "b", 99, 0, "zz")], wide)
        self.assert_plan(Unknown, "zy", scheme, stock, shelves, 0)
        # No room for the first one, an unknown shelf of the next one.
        scheme, stock = case([("rb", 1, None, 0, 2, None), ("rc", 1, "c", 0, 0, "zz")], wide)
        self.assert_plan(NoRoom, "rb", scheme, stock, shelves, 0)
        scheme, stock = case([("rb", 1, None, 0, 1, None), ("rc", 1, "c", 0, 0, "zz")], wide)
        self.assert_plan(Unknown, "zz", scheme, stock, shelves, 0)
        # Crossed, where there would be no room either.
        scheme, stock = case([("rb", 1, None, 0, 1, None), ("rc", 1, "c", 99, 999, "sc")], wide, group("c", 1, [99]))
        self.assert_plan(Crossed, "rc", scheme, stock, shelves, 0)
        self.assert_plan(NoRoom, "rc", *case([("rb", 1, None, 0, 1, None), ("rc", 1, "c", 0, 0, None)], wide,
                                             group("c", 1, [1])), shelves, 0)
        # Crossed of the second run ahead of Unknown of the third one, and of no room of it.
        ahead = [("rb", 1, None, 0, 1, None), ("rc", 1, "c", 0, 0, "sa")]
        self.assert_plan(Crossed, "rc", *case(ahead + [("rd", 2, None, 0, 0, "zz")], wide), shelves, 0)
        self.assert_plan(Crossed, "rc", *case(ahead + [("rd", 2, None, 9, 0, None)], wide), shelves, 7)

    def test_no_shelves(self):
        for widths, growth, years in [([1], 0, 0), ([], 1, 1), ([99], 9, 9)]:
            scheme, stock = case([("ra", 1, None, growth, 0, None)], group("a", 1, widths))
            self.assert_plan(NoRoom, "ra", scheme, stock, [], years)
            self.assert_plan(NoRoom, "ra", scheme, stock, (), years)

    def test_shelves_that_are_too_low_give_no_room(self):
        scheme, stock = case([("ra", 5, None, 0, 0, None)], group("a", 5, [5]))
        self.assert_plan(NoRoom, "ra", scheme, stock, [("sa", 4, 99), ("sb", 1, 999)], 0)
        self.assertEqual(planned(scheme, stock, [("sa", 4, 99), ("sb", 5, 5)], 0).used(), 2)
        self.assert_plan(NoRoom, "ra", scheme, stock, [("sa", 4, 99), ("sb", 5, 4)], 0)

    def test_a_run_behind_the_last_shelf(self):
        scheme, stock = case([("ra", 1, None, 0, 0, None), ("rb", 2, None, 0, 0, None)],
                             group("a", 1, [5]), group("b", 2, [5]))
        self.assert_plan(NoRoom, "rb", scheme, stock, [("sa", 9, 99)], 0)
        self.assertEqual(planned(scheme, stock, [("sa", 9, 5), ("sb", 9, 5)], 0).used(), 2)


class EmptyTest(Case):
    def test_nothing_at_all(self):
        for shelves in [[], ()]:
            for even in [False, True]:
                for years in [0, 99]:
                    plan = planned(Scheme([]), stock_of([]), shelves, years, even)
                    self.assertIs(type(plan), Plan)
                    self.assertEqual(all_of(plan), [[], [], [], [], [], [], [], 0, years, [], [], []])
        self.assertEqual(most_years(Scheme([]), stock_of([]), [], 99), 99)

    def test_no_runs(self):
        shelves = [("sa", 1, 5), ("sb", 9, 6)]
        plan = planned(Scheme([]), stock_of([]), tuple(shelves), 7)
        self.assertEqual(all_of(plan), [[], [], [], [], [("sa", []), ("sb", [])], [[], []], shelves, 0, 7, [], [],
                                        shelves])

    def test_no_volumes(self):
        runs = [("ra", 1, None, 3, 999, None), ("rb", 1, "b", 0, 999, None), ("rc", 2, None, 2, 0, None)]
        shelves = [("sa", 1, 5), ("sb", 9, 6), ("sc", 1, 9), ("sd", 2, 1), ("se", 9, 9)]
        for even in [False, True]:
            plan = planned(Scheme(runs), stock_of([]), shelves, 0, even)
            self.assertEqual(plan.told(), [("ra", [], 0, 1), ("rb", [], 0, None), ("rc", [], 0, 1)])
            self.assertEqual(plan.used(), 0)
            plan = planned(Scheme(runs), stock_of([]), shelves, 3, even)
            self.assertEqual(plan.told(), [("ra", ["sa", "sb"], 11, 4), ("rb", [], 0, None),
                                           ("rc", ["sd", "se"], 10, 6)])
            self.assertEqual(plan.used(), 5)
            self.assertEqual(widths_on(plan), [[]] * 5)

    def test_a_run_without_shelves_leaves_the_next_ones_where_they_were(self):
        shelves = [("sa", 9, 5), ("sb", 9, 5), ("sc", 9, 5), ("sd", 9, 5)]
        for at in [None, "sb", "sc", "sd"]:
            runs = [("ra", 1, None, 0, 0, None), ("rb", 1, "b", 5, 9, at), ("rc", 1, "c", 0, 0, None)]
            scheme, stock = case(runs, group("a", 1, [5]), group("c", 1, [3]))
            plan = planned(scheme, stock, shelves, 0)
            self.assertEqual(plan.told(), [("ra", ["sa"], 0, None), ("rb", [], 0, 1), ("rc", ["sb"], 2, None)])
            self.assertEqual(plan.used(), 2)

    def test_a_run_without_shelves_is_refused_all_the_same(self):
        shelves = [("sa", 9, 5), ("sb", 9, 5), ("sc", 9, 5)]
        runs = [("ra", 1, None, 0, 0, "sb"), ("rb", 1, "b", 0, 0, None), ("rc", 1, "c", 0, 0, None)]
        for at, refused in [("zz", (Unknown, "zz")), ("a", (Unknown, "a")), ("sa", (Crossed, "rb")),
                            ("sb", (Crossed, "rb")), ("sc", None)]:
            runs[1] = ("rb", 1, "b", 0, 0, at)
            scheme, stock = case(runs, group("a", 1, [5]), group("c", 1, [3]))
            if refused is None:
                told = planned(scheme, stock, shelves, 0).told()
                self.assertEqual(told[1:], [("rb", [], 0, None), ("rc", ["sc"], 2, None)])
            else:
                self.assert_found(*refused, planned, scheme, stock, shelves, 0)
                self.assertIs(most_years(scheme, stock, shelves, 9), None)

    def test_a_run_without_shelves_ahead_crosses_none(self):
        shelves = [("sa", 9, 5), ("sb", 9, 5)]
        runs = [("ra", 1, None, 0, 0, "sb"), ("rb", 1, "b", 0, 0, "sa")]
        scheme, stock = case(runs, group("b", 1, [5]))
        self.assertEqual(planned(scheme, stock, shelves, 0).told(), [("ra", [], 0, None), ("rb", ["sa"], 0, None)])


class WhereRunsStandTest(Case):
    def test_each_behind_the_one_ahead(self):
        runs = [("rc", 2, None, 0, 0, None), ("ra", 1, None, 0, 0, None), ("rb", 1, "b", 0, 0, None)]
        shelves = [("sd", 9, 10), ("sc", 9, 10), ("sb", 9, 10), ("sa", 9, 10), ("se", 9, 10)]
        scheme, stock = case(runs, group("a", 1, [6, 6]), group("b", 1, [1]), group("c", 2, [9]))
        plan = planned(scheme, stock, shelves, 0)
        self.assertEqual(plan.told(), [("ra", ["sd", "sc"], 8, None), ("rb", ["sb"], 9, None), ("rc", ["sa"], 1, None)])
        self.assertEqual([name for name, _ in plan.rows()], ["sd", "sc", "sb", "sa", "se"])
        self.assertEqual(widths_on(plan), [[6], [6], [1], [9], []])
        self.assertEqual(plan.used(), 4)
        self.assertEqual([run[0] for run in plan.runs()], ["ra", "rb", "rc"])

    def test_at_a_shelf(self):
        shelves = [("sa", 9, 10), ("sb", 9, 10), ("sc", 9, 10), ("sd", 9, 10)]
        runs = [("ra", 1, None, 0, 0, "sb"), ("rb", 2, None, 0, 0, "sd")]
        scheme, stock = case(runs, group("a", 1, [6]), group("b", 2, [9]))
        plan = planned(scheme, stock, shelves, 0)
        self.assertEqual(plan.told(), [("ra", ["sb"], 4, None), ("rb", ["sd"], 1, None)])
        self.assertEqual(widths_on(plan), [[], [6], [], [9]])
        self.assertEqual(plan.used(), 4)

    def test_at_the_shelf_just_behind_and_at_the_last_one(self):
        shelves = [("sa", 9, 10), ("sb", 9, 10), ("sc", 9, 10)]
        volumes = [group("a", 1, [6, 6]), group("b", 2, [9])]
        for at, shown in [(None, ["sc"]), ("sc", ["sc"]), ("sb", None), ("sa", None)]:
            scheme, stock = case([("ra", 1, None, 0, 0, None), ("rb", 2, None, 0, 0, at)], *volumes)
            if shown is None:
                self.assert_found(Crossed, "rb", planned, scheme, stock, shelves, 0)
            else:
                self.assertEqual(planned(scheme, stock, shelves, 0).told()[1][1], shown)

    def test_crossed_by_the_growth_alone(self):
        shelves = [("sa", 9, 10), ("sb", 9, 10), ("sc", 9, 10)]
        runs = [("ra", 1, None, 2, 0, None), ("rb", 2, None, 0, 0, "sb")]
        scheme, stock = case(runs, group("a", 1, [6]), group("b", 2, [9]))
        self.assertEqual(planned(scheme, stock, shelves, 2).told(), [("ra", ["sa"], 4, 3), ("rb", ["sb"], 1, None)])
        self.assert_found(Crossed, "rb", planned, scheme, stock, shelves, 3)
        self.assertEqual(most_years(scheme, stock, shelves, 99), 2)

    def test_too_low_shelves_are_left_out(self):
        shelves = [("sa", 1, 9), ("sb", 2, 9), ("sc", 1, 9), ("sd", 9, 9), ("se", 1, 9), ("sf", 2, 9), ("sg", 1, 99)]
        scheme, stock = case([("ra", 2, None, 0, 0, None)], group("a", 2, [9, 9]))
        plan = planned(scheme, stock, shelves, 0)
        self.assertEqual(plan.told(), [("ra", ["sb", "sd"], 0, None)])
        self.assertEqual(widths_on(plan), [[], [9], [], [9], [], [], []])
        self.assertEqual(plan.used(), 4)
        # What is left out lies behind for no other run.
        scheme, stock = case([("ra", 2, None, 1, 0, None), ("rb", 3, None, 0, 0, None)], group("a", 2, [9, 9]))
        self.assertEqual(planned(scheme, stock, shelves, 1).told()[0], ("ra", ["sb", "sd", "sf"], 9, 10))
        self.assert_found(NoRoom, "ra", planned, scheme, stock, shelves, 10)

    def test_a_shelf_that_is_too_low_to_begin_at(self):
        shelves = [("sa", 2, 9), ("sb", 1, 9), ("sc", 2, 9)]
        scheme, stock = case([("ra", 2, None, 0, 0, "sb")], group("a", 2, [9]))
        self.assertEqual(planned(scheme, stock, shelves, 0).told(), [("ra", ["sc"], 0, None)])
        scheme, stock = case([("ra", 2, None, 0, 0, "sb")], group("a", 2, [9, 1]))
        self.assert_found(NoRoom, "ra", planned, scheme, stock, shelves, 0)

    def test_left_out_shelves_are_no_run_s_behind_it(self):
        # The run of size 1 could stand on the low shelf, but it stands behind the high ones in the order.
        shelves = [("sa", 1, 9), ("sb", 2, 9), ("sc", 1, 9)]
        scheme, stock = case([("ra", 1, None, 0, 0, "sb"), ("rb", 2, None, 0, 0, None)],
                             group("a", 1, [5]), group("b", 2, [5]))
        self.assert_found(NoRoom, "rb", planned, scheme, stock, shelves, 0)

    def test_as_high_as_the_size(self):
        for size in range(1, 10):
            for height in range(1, 10):
                scheme, stock = case([("ra", size, None, 0, 0, None)], group("a", size, [5]))
                if height >= size:
                    self.assertEqual(planned(scheme, stock, [("sa", height, 5)], 0).used(), 1)
                else:
                    self.assert_found(NoRoom, "ra", planned, scheme, stock, [("sa", height, 5)], 0)

    def test_growth_that_is_just_borne(self):
        scheme, stock = case([("ra", 1, None, 7, 0, None)], group("a", 1, [5, 3]))
        for length, years, refused in [(22, 2, False), (21, 2, True), (29, 3, False), (28, 3, True), (701, 99, False),
                                       (700, 99, True)]:
            if refused:
                self.assert_found(NoRoom, "ra", planned, scheme, stock, [("sa", 1, length)], years)
                self.assertEqual(most_years(scheme, stock, [("sa", 1, length)], 99), years - 1)
            else:
                plan = planned(scheme, stock, [("sa", 1, length)], years)
                self.assertEqual(plan.told(), [("ra", ["sa"], 7 * years, years + 1)])
                self.assertEqual(most_years(scheme, stock, [("sa", 1, length)], 99), years)

    def test_growth_takes_shelves_behind_the_volumes(self):
        scheme, stock = case([("ra", 1, None, 10, 4, None), ("rb", 2, None, 0, 0, None)], group("a", 1, [5, 3]),
                             group("b", 2, [5]))
        shelves = [(name, 2, 12) for name in names(6)]
        for years, many in [(0, 1), (1, 2), (2, 3), (3, 4), (4, 4), (5, 5)]:
            plan = planned(scheme, stock, shelves, years)
            self.assertEqual(plan.told()[0], ("ra", names(6)[:many], 12 * many - 8, (12 * many - 8) // 10 + 1))
            self.assertEqual(widths_on(plan), [[5, 3]] + [[]] * (many - 1) + [[5]] + [[]] * (5 - many))
        self.assert_found(NoRoom, "rb", planned, scheme, stock, shelves, 6)

    def test_the_keep_is_not_taken_off_the_growth(self):
        scheme, stock = case([("ra", 1, None, 10, 10, None)], group("a", 1, [5]))
        self.assertEqual(planned(scheme, stock, [("sa", 1, 15)], 1).told(), [("ra", ["sa"], 10, 2)])
        self.assert_found(NoRoom, "ra", planned, scheme, stock, [("sa", 1, 14)], 0)

    def test_shelves_that_are_shorter_than_the_keep_count(self):
        scheme, stock = case([("ra", 1, None, 1, 10, None)], group("a", 1, [5, 5]))
        shelves = [("sa", 1, 3), ("sb", 1, 15), ("sc", 1, 9), ("sd", 1, 20)]
        for even in [False, True]:
            plan = planned(scheme, stock, shelves, 0, even)
            self.assertEqual(plan.told(), [("ra", ["sa", "sb", "sc", "sd"], 37, 38)])
            self.assertEqual(widths_on(plan), [[], [5], [], [5]])
            self.assertEqual(most_years(scheme, stock, shelves, 99), 37)


class FilledTest(Case):
    def test_as_many_on_each_as_can_stand_there(self):
        scheme, stock = case([("ra", 1, None, 0, 2, None)], group("a", 1, [3, 3, 3, 3, 1]))
        shelves = [("sa", 1, 8), ("sb", 1, 4), ("sc", 1, 5), ("sd", 1, 99)]
        self.assertEqual(widths_on(planned(scheme, stock, shelves, 0)), [[3, 3], [], [3], [3, 1]])
        self.assertEqual(widths_on(planned(scheme, stock, shelves, 0, False)), [[3, 3], [], [3], [3, 1]])

    def test_sixty_on_forty(self):
        scheme, stock = case([("ra", 1, None, 99, 0, None)], [(name, "a", 1, 99) for name in names(60)])
        shelves = [("s" + name, 1, 999) for name in names(40)]
        plan = planned(scheme, stock, shelves, 99)
        self.assertEqual(plan.used(), 16)
        self.assertEqual(widths_on(plan), [[99] * 10] * 6 + [[]] * 34)
        plan = planned(scheme, stock, shelves, 99, True)
        self.assertEqual([len(row) for row in widths_on(plan)], [4] * 15 + [0] * 25)
        self.assertEqual(most_years(scheme, stock, shelves, 99), 99)
        scheme, stock = case([("ra", 1, None, 999, 0, None)], [(name, "a", 1, 99) for name in names(60)])
        self.assertEqual(most_years(scheme, stock, shelves, 99), (999 * 40 - 99 * 60) // 999)
        self.assertEqual(most_years(Scheme([("ra", 1, None, 999, 0, None)]), stock_of([]), shelves, 99), 40)


class EvenTest(Case):
    def assert_even(self, keep, widths, lengths, growth, years, shown):
        scheme, stock = case([("ra", 1, None, growth, keep, None)], group("a", 1, widths))
        shelves = [(name, 1, length) for name, length in zip(names(len(lengths)), lengths)]
        plan = planned(scheme, stock, shelves, years, True)
        self.assertEqual(widths_on(plan), shown)
        # Which shelves a run has doesn't hang on how its volumes stand there.
        self.assertEqual(plan.told(), planned(scheme, stock, shelves, years, False).told())
        self.assertEqual(plan.used(), planned(scheme, stock, shelves, years).used())

    def test_spread(self):
        self.assert_even(0, [3, 3, 3, 3], [12, 12, 12, 12], 12, 3, [[3], [3], [3], [3]])
        self.assert_even(0, [3, 3, 3, 3], [12, 12, 12, 12], 12, 2, [[3, 3], [3, 3], [], []])
        self.assert_even(0, [3, 3, 3, 3], [12, 12, 12], 24, 1, [[3, 3], [3, 3], []])
        self.assert_even(0, [5, 1, 1], [10, 10], 1, 3, [[5, 1, 1], []])
        self.assert_even(0, [5, 1, 1], [10, 10], 1, 4, [[5], [1, 1]])
        self.assert_even(0, [5, 1, 1], [10, 10], 1, 9, [[5], [1, 1]])

    def test_shelves_that_are_shorter_than_the_keep(self):
        self.assert_even(5, [2, 2], [4, 9, 4, 9, 4], 26, 1, [[], [2], [], [2], []])
        # One just as long as the keep bears none either, as the keep has to be free on it.
        self.assert_even(5, [2, 2], [5, 9, 9], 14, 1, [[], [2, 2], []])
        self.assert_even(4, [2, 2], [4, 9, 9], 14, 1, [[], [2, 2], []])
        self.assert_even(4, [2, 2], [3, 9, 9], 14, 1, [[], [2], [2]])
        self.assert_even(5, [2, 2], [7, 9, 9], 20, 1, [[], [2], [2]])
        # Some that are longer by just as much as goes there.
        self.assert_even(5, [2, 2], [7, 7, 4], 14, 1, [[2], [2], []])
        self.assert_even(5, [2, 2], [4, 7, 7, 4], 18, 1, [[], [2], [2], []])
        self.assert_even(7, [2, 2, 2], [6, 9, 6, 9, 9], 33, 1, [[], [2], [], [2], [2]])

    def test_all_are_shorter_than_the_keep(self):
        self.assert_even(9, [], [8, 8, 8], 5, 3, [[], [], []])
        self.assert_even(9, [], [9, 8, 9], 5, 5, [[], [], []])
        self.assert_even(999, [], [8, 8, 8], 24, 1, [[], [], []])

    def test_as_many_as_go(self):
        self.assert_even(5, [2, 2, 2], [7, 7, 7], 15, 1, [[2], [2], [2]])
        self.assert_even(5, [2, 2, 2], [7, 7, 7], 0, 1, [[2], [2], [2]])
        self.assert_even(0, [7, 7, 7], [7, 7, 7], 0, 0, [[7], [7], [7]])

    def test_run_by_run(self):
        runs = [("ra", 1, None, 1, 0, None), ("rb", 2, None, 2, 3, "sd")]
        scheme, stock = case(runs, group("a", 1, [4, 4]), group("b", 2, [4, 4]))
        shelves = [("sa", 1, 9), ("sb", 2, 9), ("sc", 1, 9), ("sd", 1, 9), ("se", 2, 9), ("sf", 2, 2), ("sg", 2, 9)]
        self.assertEqual(widths_on(planned(scheme, stock, shelves, 6, True)), [[4], [4], [], [], [4], [], [4]])
        self.assertEqual(widths_on(planned(scheme, stock, shelves, 1, True)), [[4, 4], [], [], [], [4], [], [4]])
        self.assertEqual(widths_on(planned(scheme, stock, shelves, 6)), [[4, 4], [], [], [], [4], [], [4]])

    def test_the_keep_is_free_on_each_that_bears_any(self):
        for runs, groups, shelves, years in some_cases(11, 200, 6):
            scheme, stock = case_of(runs, groups)
            try:
                plan = planned(scheme, stock, shelves, years, True)
            except ShelvesError:
                continue
            free = {shelf[0]: shelf[2] - sum(widths) for shelf, widths in zip(shelves, widths_on(plan))}
            bears = {name for name, row in plan.rows() if row}
            for run, (_, had, _, _) in zip(runs, plan.told()):
                self.assertTrue(all(free[name] >= run[4] for name in had if name in bears))


class ToldTest(Case):
    def standing(self):
        runs = [("ra", 1, None, 0, 0, None), ("rb", 1, "b", 1, 0, None), ("rc", 1, "c", 4, 0, None),
                ("rd", 1, "d", 5, 0, None), ("re", 2, None, 3, 0, None)]
        scheme, stock = case(runs, group("a", 1, [4, 3]), group("b", 1, [1]), group("c", 1, [2]), group("e", 2, [5]))
        shelves = [("sa", 2, 9), ("sb", 2, 9), ("sc", 1, 10), ("sd", 2, 8), ("sf", 9, 7)]
        return scheme, stock, shelves, planned(scheme, stock, shelves, 0)

    def test_of_each_run(self):
        scheme, _, _, plan = self.standing()
        self.assertEqual(plan.told(), [("ra", ["sa"], 2, None), ("rb", ["sb"], 8, 9), ("rc", ["sc"], 8, 3),
                                       ("rd", [], 0, 1), ("re", ["sd"], 3, 2)])
        for name, shelves, gap, fills in plan.told():
            self.assertIs(type(shelves), list)
            self.assertEqual((plan.gap(name), plan.fills(name)), (gap, fills))
            self.assertEqual([type(plan.gap(name)), type(plan.fills(name))], [int, type(fills)])
            volumes = [volume for shelf, row in plan.rows() if shelf in shelves for volume in row]
            self.assertEqual(plan.volumes_of(name), volumes)
        self.assertEqual([len(plan.volumes_of(name)) for name in scheme.names()], [2, 1, 1, 0, 1])

    def test_the_year_of_filling_is_told_exactly(self):
        for growth in [1, 2, 3, 7, 999]:
            for length in [6, 7, 8, 12, 13, 14, 999]:
                scheme, stock = case([("ra", 1, None, growth, 0, None)], group("a", 1, [6]))
                plan = planned(scheme, stock, [("sa", 1, length)], 0)
                gap = length - 6
                self.assertEqual(plan.gap("ra"), gap)
                self.assertEqual(plan.fills("ra"), min(year for year in range(1, 1001) if year * growth > gap))
                years = plan.fills("ra") - 1
                if years <= 99:
                    self.assertEqual(planned(scheme, stock, [("sa", 1, length)], years).told(), plan.told())
                if years < 99:
                    self.assert_found(NoRoom, "ra", planned, scheme, stock, [("sa", 1, length)], years + 1)

    def test_a_plan_for_years_fills_behind_them(self):
        for runs, groups, shelves, years in some_cases(12, 200, 6):
            scheme, stock = case_of(runs, groups)
            try:
                plan = planned(scheme, stock, shelves, years)
            except ShelvesError:
                continue
            for name, _, _, fills in plan.told():
                self.assertTrue(fills is None or fills > years)

    def test_unknown(self):
        _, _, _, plan = self.standing()
        empty = planned(Scheme([]), stock_of([]), [], 0)
        others = ["r", "raa", "sa", "RA", "aaa", ("ra",), ["ra"], 0, plan.runs()[0], plan]
        for thing in ODD_THINGS + ODD_NUMBERS + others:
            for ask in [plan.gap, plan.fills, plan.volumes_of]:
                self.assert_found(Unknown, thing, ask, thing)
        for ask in [empty.gap, empty.fills, empty.volumes_of]:
            self.assert_found(Unknown, "ra", ask, "ra")

    def test_all_else(self):
        scheme, stock, shelves, plan = self.standing()
        self.assertEqual(plan.runs(), scheme.runs())
        self.assertEqual(plan.volumes(), stock.volumes())
        self.assertEqual(plan.shelves(), shelves)
        self.assertEqual((plan.years(), plan.used()), (0, 4))
        self.assertEqual([type(plan.years()), type(plan.used())], [int, int])
        for years in [0, 1, 98, 99]:
            self.assertEqual(planned(Scheme([]), stock_of([]), shelves, years, True).years(), years)

    def test_used(self):
        scheme, stock = case([("ra", 1, None, 0, 0, None)], group("a", 1, [5]))
        shelves = [("sa", 1, 5), ("sb", 1, 5), ("sc", 1, 5)]
        self.assertEqual(planned(scheme, stock, shelves, 0).used(), 1)
        self.assertEqual(planned(scheme, stock, [("lo", 1, 4)] + shelves, 0).used(), 2)
        scheme, stock = case([("ra", 1, None, 1, 0, None)], group("a", 1, [5]))
        self.assertEqual(planned(scheme, stock, shelves, 10).used(), 3)
        scheme, stock = case([("ra", 1, None, 0, 0, "sc")], group("a", 1, [5]))
        self.assertEqual(planned(scheme, stock, shelves, 10).used(), 3)
        self.assertEqual(planned(scheme, stock_of([]), shelves, 10).used(), 0)

    def test_house_and_rows_agree(self):
        _, _, shelves, plan = self.standing()
        house = plan.house()
        self.assertIs(type(house), House)
        self.assertEqual(plan.rows(), list(zip([shelf[0] for shelf in shelves], house.rows())))
        self.assertEqual(house.shelves(), shelves)
        self.assertIs(is_as_promised(house), True)
        self.assertEqual(house.rows(), house_of(shelves, [row for _, row in plan.rows()]).rows())

    def test_new_ones_each_time(self):
        _, _, _, plan = self.standing()
        for ask in [plan.told, plan.rows, plan.runs, plan.volumes, plan.shelves, lambda: plan.volumes_of("ra"),
                    lambda: plan.volumes_of("rd"), plan.house().volumes]:
            self.assert_new_each_time(ask)
        ahead = all_of(plan)
        told, rows, again = plan.told(), plan.rows(), plan.rows()
        self.assertEqual(len({id(row) for _, row in rows + again}), 10)
        for _, shelves, _, _ in told:
            shelves.append("more")
        for _, row in rows:
            row.append("more")
        self.assertIsNot(plan.house(), plan.house())
        plan.house().take("aaa")
        self.assertEqual(all_of(plan), ahead)

    def test_what_was_handed_in_is_changed_behind(self):
        scheme, stock, shelves, plan = self.standing()
        ahead = all_of(plan)
        stock.drop("aaa")
        stock.widen("aab", 99)
        stock.put_in(("zz", "zz", 1, 50))
        shelves.reverse()
        shelves.pop()
        self.assertEqual(all_of(plan), ahead)
        stock.volumes().clear()
        self.assertEqual(all_of(planned(scheme, stock_of(ahead[10]), ahead[11], 0)), ahead)

    def test_what_is_handed_in_stays(self):
        scheme, stock, shelves, _ = self.standing()
        ahead = (scheme.runs(), stock.volumes(), list(shelves))
        planned(scheme, stock, shelves, 0, True)
        most_years(scheme, stock, shelves, 50)
        self.assertEqual((scheme.runs(), stock.volumes(), shelves), ahead)

    def test_two_plans_have_nothing_in_common(self):
        scheme, stock, shelves, plan = self.standing()
        other = planned(scheme, stock, shelves, 0)
        plan.house().take("aaa")
        plan.rows()[0][1].clear()
        self.assertEqual(all_of(other), all_of(plan))


class MostYearsTest(Case):
    def test_none_zero_the_most_and_between(self):
        scheme, stock = case([("ra", 1, None, 5, 0, None)], group("a", 1, [5, 5]))
        for length, most, told in [(9, 99, None), (9, 0, None), (10, 99, 0), (14, 99, 0), (15, 99, 1), (15, 1, 1),
                                   (15, 0, 0), (504, 99, 98), (505, 99, 99), (999, 99, 99), (505, 98, 98),
                                   (57, 99, 9), (57, 9, 9), (57, 8, 8), (57, 10, 9)]:
            answer = most_years(scheme, stock, [("sa", 1, length)], most)
            self.assertEqual(answer, told, (length, most))
            self.assertIs(type(answer), type(told))

    def test_without_growth(self):
        scheme, stock = case([("ra", 1, None, 0, 0, None)], group("a", 1, [5]))
        for most in [0, 1, 50, 99]:
            self.assertEqual(most_years(scheme, stock, [("sa", 1, 5)], most), most)
            self.assertIs(most_years(scheme, stock, [("sa", 1, 4)], most), None)

    def test_each_number_up_to_it_and_none_beyond(self):
        asked, between = 0, 0
        for runs, groups, shelves, _ in some_cases(13, 150, 7):
            scheme, stock = case_of(runs, groups)
            told = most_years(scheme, stock, shelves, 12)
            for years in range(13):
                try:
                    planned(scheme, stock, shelves, years)
                    self.assertTrue(told is not None and years <= told)
                except (Unknown, Crossed, NoRoom):
                    self.assertTrue(told is None or years > told)
            for most in range(13):
                self.assertEqual(most_years(scheme, stock, shelves, most), None if told is None else min(told, most))
            asked += 1
            between += told is not None and 0 < told < 12
        self.assertGreater(between, 10)


class ByTheWordsTest(Case):
    def test_against_the_words(self):
        done = {Unknown: 0, Crossed: 0, NoRoom: 0, list: 0}
        for runs, groups, shelves, years in some_cases(14, 600, 7):
            scheme, stock = case_of(runs, groups)
            for even in [False, True]:
                told = plan_by_the_words(runs, groups, shelves, years, even)
                if isinstance(told, tuple):
                    done[told[0]] += 1
                    with self.assertRaises(told[0]) as caught:
                        planned(scheme, stock, shelves, years, even)
                    self.assertEqual(caught.exception.found, told[1])
                    continue
                done[list] += 1
                plan = planned(scheme, stock, shelves, years, even)
                self.assertEqual([had for _, had, _, _ in plan.told()], [had for had, _ in told])
                stands = {}
                for had, parts in told:
                    stands.update(zip(had, parts))
                self.assertEqual(widths_on(plan), [stands.get(shelf[0], []) for shelf in shelves])
                self.assertIs(is_as_promised(plan.house()), True)
        self.assertGreater(min(done.values()), 30, done)

    def test_over_all_ways_none_ends_on_an_earlier_shelf(self):
        planned_ones, refused = 0, 0
        for runs, groups, shelves, years in some_cases(15, 300, 4):
            scheme, stock = case_of(runs, groups)
            ways = list(all_ways(runs, groups, shelves, years))
            try:
                plan = planned(scheme, stock, shelves, years)
            except Unknown:
                continue
            except (NoRoom, Crossed):
                self.assertEqual(ways, [], (runs, groups, shelves, years))
                refused += 1
                continue
            places = [shelf[0] for shelf in shelves]
            last = [max([places.index(name) for name in had], default=-1) for _, had, _, _ in plan.told()]
            self.assertIn(last, ways)
            for way in ways:
                self.assertTrue(all(one <= other for one, other in zip(last, way)), (last, way))
            planned_ones += 1
        self.assertGreater(min(planned_ones, refused), 50)


def all_ways(runs, groups, shelves, years):
    """Of all ways of 65 to put the runs down, the place of the last shelf of each run, -1 where it has none."""
    places = [shelf[0] for shelf in shelves]
    if any(run[5] is not None and run[5] not in places for run in runs):
        return
    for given in itertools.product(range(-1, len(runs)), repeat=len(shelves)):
        had = [[place for place, run in enumerate(given) if run == number] for number in range(len(runs))]
        if all(is_way_of(run, widths, had[number], had[:number], shelves, years)
               for number, (run, widths) in enumerate(zip(runs, groups))):
            yield [max(some, default=-1) for some in had]


def is_way_of(run, widths, had, had_ahead, shelves, years):
    """Whether a run may have just these shelves behind those that the runs ahead have."""
    _, size, _, growth, keep, at = run
    begin = 1 + max([place for some in had_ahead for place in some], default=-1)
    if at is not None:
        place = [shelf[0] for shelf in shelves].index(at)
        if place < begin:
            return False
        begin = place
    if any(place < begin or shelves[place][1] < size for place in had):
        return False
    lengths = [shelves[place][2] for place in had]
    return sum(lengths) - sum(widths) >= growth * years and list(cuttings(widths, lengths, keep)) != []


if __name__ == "__main__":
    unittest.main()
