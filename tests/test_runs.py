"""Points 30 to 35, and runs of points 2 to 6."""

import itertools
import unittest

from shelvesmoved.errors import (Alone, NoMark, NoName, NoNumber, NoRun, NoVolume, Outside, Taken, TooMany, Twice,
                                 Unknown)
from shelvesmoved.marks import mark_ahead
from shelvesmoved.runs import Scheme
from shelvesmoved.stock import Stock
from tests.things import ODD_NUMBERS, ODD_THINGS, Case, Numbers, names, stock_of

# All in order.
RUNS = [
    ("low", 1, None, 5, 10, None), ("mid", 1, "9", 0, 0, "shelf"), ("ten", 1, "10", 999, 999, None),
    ("let", 1, "b", 1, 7, "aa"), ("dot", 1, "b.0", 2, 3, None), ("big", 3, "a", 600, 4, "bb"),
    ("huge", 3, "c.5", 500, 3, None), ("last", 9, None, 7, 8, "cc"),
]

GOOD = ("a", 1, "b", 0, 0, None)


def twelve():
    return [(name, 1, str(at), 1, 1, None) for at, name in enumerate(names(12))]


def all_of(scheme):
    """All that a scheme tells of itself."""
    told = scheme.names()
    return [scheme.runs(), told, [scheme.run(name) for name in told], [scheme.span(name) for name in told]]


def run_by_the_words(runs, volume):
    """The run's name, told by going through the document's words."""
    having = [run for run in runs if run[1] == volume[2]]
    having = [run for run in having if run[2] is None or not mark_ahead(volume[1], run[2])]
    told = None
    for run in having:
        behind = [other for other in having if other != run and stands_ahead(run, other)]
        if not behind:
            told = run[0]
    return told


def stands_ahead(run, other):
    if run[2] is None or other[2] is None:
        return run[2] is None
    return mark_ahead(run[2], other[2])


class SchemeTest(Case):
    def assert_no_run(self, kind, found, run):
        """The run is refused alone, and among others, wherever it stands."""
        others = [("oo", 9, "a", 1, 1, None), ("pp", 9, "b", 1, 1, None)]
        for at in range(3):
            runs = others[:at] + [run] + others[at:]
            self.assert_found(kind, found, Scheme, runs)
            self.assert_found(kind, found, Scheme, tuple(runs))
        self.assert_found(kind, found, Scheme, [run])

    def test_none_and_one(self):
        for runs in [[], ()]:
            self.assertEqual(all_of(Scheme(runs)), [[], [], [], []])
        for runs in [[GOOD], (GOOD,)]:
            self.assertEqual(all_of(Scheme(runs)), [[GOOD], ["a"], [GOOD], [(1, "b", None)]])

    def test_twelve_and_thirteen(self):
        self.assertEqual(Scheme(twelve()).runs(), twelve())
        for more in [[GOOD], [None], [GOOD, GOOD], [None] * 88]:
            runs = twelve() + more
            self.assert_refused(TooMany, {"count": len(runs)}, Scheme, runs)
            self.assert_refused(TooMany, {"count": len(runs)}, Scheme, tuple(runs))
        self.assert_refused(TooMany, {"count": 13}, Scheme, [None] * 13)

    def test_no_list_and_no_tuple(self):
        for thing in ODD_THINGS + ODD_NUMBERS + [{"a": GOOD}, Stock(), Scheme([])]:
            if not isinstance(thing, (list, tuple)):
                self.assert_found(NoRun, thing, Scheme, thing)

    def test_a_run_is_handed_in_bare(self):
        self.assert_found(NoRun, "a", Scheme, GOOD)

    def test_no_tuple_of_six_things(self):
        for thing in ODD_THINGS + ODD_NUMBERS + [GOOD[:5], GOOD + (1,), list(GOOD), "abcdef", (), {"a": 1}]:
            self.assert_no_run(NoRun, thing, thing)

    def test_each_thing_of_a_run(self):
        for thing in ODD_THINGS + ODD_NUMBERS + ["abcdefghi", "a1"]:
            self.assert_no_run(NoName, thing, (thing,) + GOOD[1:])
        for thing in ODD_THINGS + ODD_NUMBERS + [0, 10, True, "1"]:
            self.assert_no_run(NoNumber, thing, GOOD[:1] + (thing,) + GOOD[2:])
        for thing in ODD_THINGS + ODD_NUMBERS + [0, 1, "01", "a.b.c.d.e"]:
            if thing is not None:
                self.assert_no_run(NoMark, thing, GOOD[:2] + (thing,) + GOOD[3:])
        for thing in ODD_THINGS + ODD_NUMBERS + [1000, True, False, "1"]:
            self.assert_no_run(NoNumber, thing, GOOD[:3] + (thing,) + GOOD[4:])
            self.assert_no_run(NoNumber, thing, GOOD[:4] + (thing,) + GOOD[5:])
        for thing in ODD_THINGS + ODD_NUMBERS + ["abcdefghi", 0, 1]:
            if thing is not None:
                self.assert_no_run(NoName, thing, GOOD[:5] + (thing,))

    def test_at_the_bounds(self):
        for run in [("a", 1, None, 0, 0, None), ("abcdefgh", 9, "a.b.c.d", 999, 999, "abcdefgh"),
                    ("a", 5, "0", 0, 999, "a")]:
            self.assertEqual(Scheme([run]).runs(), [run])

    def test_the_order_of_looking_at_a_run(self):
        good = ("b", 2, "c", 0, 0, None)
        bad = (["name"], ["size"], ["begin"], ["growth"], ["keep"], ["at"])
        kinds = (NoName, NoNumber, NoMark, NoNumber, NoNumber, NoName)
        for spoilt in itertools.product([False, True], repeat=6):
            if any(spoilt):
                run = tuple(bad[at] if spoilt[at] else good[at] for at in range(6))
                first = spoilt.index(True)
                self.assert_found(kinds[first], bad[first], Scheme, [GOOD, run, None])

    def test_taken(self):
        for run in [("a", 2, "c", 1, 1, None), GOOD, ("a", ["size"], ["begin"], ["growth"], ["keep"], ["at"])]:
            self.assert_found(Taken, "a", Scheme, [GOOD, run])
            self.assert_found(Taken, "a", Scheme, ((GOOD, ("z", 1, None, 1, 1, None), run)))

    def test_twice(self):
        for begin in [None, "b", "0"]:
            one = ("a", 1, begin, 0, 0, None)
            self.assert_found(Twice, "c", Scheme, [one, ("c", 1, begin, 5, 6, "aa")])
            self.assert_found(Twice, "c", Scheme, [one, ("b", 2, begin, 0, 0, None), ("c", 1, begin, 5, 6, "aa")])
            self.assertEqual(Scheme([one, ("c", 2, begin, 0, 0, None)]).names(), ["a", "c"])
        self.assertEqual(Scheme([GOOD, ("c", 1, "b.0", 0, 0, None)]).names(), ["a", "c"])
        self.assertEqual(Scheme([GOOD, ("c", 1, None, 0, 0, None)]).names(), ["c", "a"])

    def test_twice_is_looked_at_last(self):
        self.assert_found(NoName, "Z", Scheme, [GOOD, ("c", 1, "b", 0, 0, "Z")])
        self.assert_found(NoNumber, -1, Scheme, [GOOD, ("c", 1, "b", 0, -1, None)])

    def test_run_by_run(self):
        same, late = ("c", 1, "b", 0, 0, None), ("d", 0, None, 0, 0, None)
        self.assert_found(Twice, "c", Scheme, [GOOD, same, late])
        self.assert_found(NoNumber, 0, Scheme, [GOOD, late, same])
        self.assert_found(Taken, "a", Scheme, [GOOD, GOOD, None])
        self.assert_found(NoRun, None, Scheme, [GOOD, None, GOOD])

    def test_by_the_order_in_which_they_were_handed_in(self):
        one, other = ("aa", 9, "b", 0, 0, None), ("zz", 9, "b", 1, 1, None)
        self.assert_found(Twice, "zz", Scheme, [one, other])
        self.assert_found(Twice, "aa", Scheme, [other, one])
        low, high = ("c", 1, None, 0, 0, None), ("c", 9, None, 0, 0, None)
        self.assert_found(Taken, "c", Scheme, [high, low])

    def test_what_is_handed_in_may_be_changed_behind(self):
        runs = RUNS[::-1]
        scheme = Scheme(runs)
        self.assertEqual(runs, RUNS[::-1])
        runs.pop()
        runs[0] = None
        self.assertEqual(scheme.runs(), RUNS)


class OrderTest(Case):
    def test_in_whatever_order_they_are_handed_in(self):
        for some in [RUNS[:4], RUNS[2:6], RUNS[4:]]:
            for turned in itertools.permutations(some):
                self.assertEqual(Scheme(list(turned)).runs(), some)
                self.assertEqual(Scheme(turned).names(), [run[0] for run in some])
        self.assertEqual(Scheme(RUNS[::-1]).runs(), RUNS)
        self.assertEqual(Scheme(RUNS[1::2] + RUNS[::2]).runs(), RUNS)

    def test_none_stands_ahead_of_all_marks(self):
        for mark in ["0", "0.0", "a", "9", "999999"]:
            runs = [("a", 1, mark, 0, 0, None), ("b", 1, None, 0, 0, None)]
            self.assertEqual(Scheme(runs).names(), ["b", "a"])
            self.assertEqual(Scheme(runs[::-1]).names(), ["b", "a"])

    def test_a_run_by_its_name(self):
        scheme = Scheme(RUNS[::-1])
        for run in RUNS:
            self.assertEqual(scheme.run(run[0]), run)
            self.assertIs(type(scheme.run(run[0])), tuple)

    def test_unknown(self):
        scheme = Scheme(RUNS)
        for thing in ODD_THINGS + ODD_NUMBERS + ["zz", "lo", "loww", "shelf", "aa", 0, ["low"], ("low",), RUNS[0]]:
            for call in [scheme.run, scheme.span, scheme.joined]:
                self.assert_found(Unknown, thing, call, thing)
            self.assert_found(Unknown, thing, scheme.split, thing, "fresh", "a")
            self.assert_found(Unknown, thing, scheme.split, thing, "A", "A")
            self.assert_found(Unknown, thing, Scheme([]).run, thing)
        self.assertEqual(scheme.runs(), RUNS)

    def test_lists_are_new_each_time(self):
        scheme = Scheme(RUNS)
        for ask in [scheme.runs, scheme.names, lambda: scheme.lost(stock_of([("a", "a", 2, 1)]))]:
            self.assert_new_each_time(ask)


class RunOfTest(Case):
    def test_told_cases(self):
        scheme = Scheme(RUNS[::-1])
        for mark, size, name in [
                ("0", 1, "low"), ("8.z", 1, "low"), ("8.999999", 1, "low"), ("9", 1, "mid"), ("9.0", 1, "mid"),
                ("9.z", 1, "mid"), ("10", 1, "ten"), ("999", 1, "ten"), ("a", 1, "ten"), ("a.z", 1, "ten"),
                ("b", 1, "let"), ("b.0", 1, "dot"), ("b.0.0", 1, "dot"), ("b.a", 1, "dot"), ("z", 1, "dot"),
                ("0", 3, None), ("999999", 3, None), ("a", 3, "big"), ("c", 3, "big"), ("c.4", 3, "big"),
                ("c.5", 3, "huge"), ("c.10", 3, "huge"), ("d", 3, "huge"), ("0", 9, "last"), ("z", 9, "last"),
                ("a", 2, None), ("a", 4, None), ("a", 8, None)]:
            self.assertEqual(scheme.run_of(("v", mark, size, 5)), name, (mark, size))
            self.assertIs(type(scheme.run_of(("v", mark, size, 5))), type(name))

    def test_by_the_words(self):
        marks = ["0", "0.0", "8", "9", "9.0", "10", "11.a", "a", "a.1", "b", "b.0", "b.0.z", "c.4", "c.5", "c.5.0", "z"]
        for many in range(len(RUNS) + 1):
            runs = RUNS[::2][:many] + RUNS[1::2][many:]
            scheme = Scheme(runs)
            for size in [1, 2, 3, 9]:
                for mark in marks:
                    volume = ("v", mark, size, 1)
                    self.assertEqual(scheme.run_of(volume), run_by_the_words(runs, volume), (runs, volume))

    def test_without_runs(self):
        self.assertIs(Scheme([]).run_of(("v", "a", 1, 1)), None)

    def test_what_is_no_volume(self):
        for scheme in [Scheme(RUNS), Scheme([])]:
            for thing in ODD_THINGS + ODD_NUMBERS + ["low", RUNS[0], ["v", "a", 1, 1]]:
                self.assert_found(NoVolume, thing, scheme.run_of, thing)
            for thing in ODD_THINGS + ODD_NUMBERS:
                self.assert_found(NoName, thing, scheme.run_of, (thing, thing, thing, thing))
                self.assert_found(NoMark, thing, scheme.run_of, ("v", thing, thing, thing))
                self.assert_found(NoNumber, thing, scheme.run_of, ("v", "a", thing, thing))
                self.assert_found(NoNumber, thing, scheme.run_of, ("v", "a", 1, thing))
            self.assert_found(NoNumber, 100, scheme.run_of, ("v", "a", 1, 100))

    def test_spans(self):
        scheme = Scheme(RUNS[::-1])
        spans = {"low": (1, None, "9"), "mid": (1, "9", "10"), "ten": (1, "10", "b"), "let": (1, "b", "b.0"),
                 "dot": (1, "b.0", None), "big": (3, "a", "c.5"), "huge": (3, "c.5", None), "last": (9, None, None)}
        for name, span in spans.items():
            self.assertEqual(scheme.span(name), span)
            self.assertIs(type(scheme.span(name)), tuple)

    def test_the_run_behind_has_another_size_and_begins_at_none(self):
        scheme = Scheme([("a", 1, None, 0, 0, None), ("b", 2, None, 0, 0, None), ("c", 2, "a", 0, 0, None)])
        self.assertEqual([scheme.span(name) for name in "abc"], [(1, None, None), (2, None, "a"), (2, "a", None)])


class PartedTest(Case):
    VOLUMES = [("a", "8", 1, 1), ("b", "9", 1, 1), ("c", "9.9", 1, 1), ("d", "c", 1, 1), ("e", "a", 2, 1),
               ("f", "0", 3, 1), ("g", "c.4", 3, 1), ("h", "c.5", 3, 1), ("i", "a", 4, 1), ("j", "0", 9, 1)]

    def test_parted_and_lost(self):
        a, b, c, d, e, f, g, h, i, j = self.VOLUMES
        scheme = Scheme(RUNS[::-1])
        stock = stock_of(self.VOLUMES[::-1])
        parted = scheme.parted(stock)
        self.assertIs(type(parted), dict)
        self.assertEqual(list(parted.items()), [("low", [a]), ("mid", [b, c]), ("ten", []), ("let", []), ("dot", [d]),
                                                ("big", [g]), ("huge", [h]), ("last", [j])])
        self.assertEqual(scheme.lost(stock), [e, f, i])
        self.assertEqual(stock.volumes(), self.VOLUMES)

    def test_a_stock_without_volumes(self):
        scheme = Scheme(RUNS)
        self.assertEqual(scheme.parted(Stock()), {run[0]: [] for run in RUNS})
        self.assertEqual(list(scheme.parted(Stock())), scheme.names())
        self.assertEqual(scheme.lost(Stock()), [])

    def test_a_scheme_without_runs(self):
        stock = stock_of(self.VOLUMES)
        self.assertEqual(Scheme([]).parted(stock), {})
        self.assertEqual(Scheme([]).lost(stock), self.VOLUMES)

    def test_the_stock_is_changed_between(self):
        scheme, stock = Scheme(RUNS), stock_of(self.VOLUMES)
        ahead = scheme.parted(stock)
        stock.put_in(("k", "9.0", 1, 1))
        stock.drop("h")
        stock.put_in(("l", "a", 7, 1))
        stock.widen("b", 9)
        self.assertEqual(scheme.parted(stock)["mid"], [("b", "9", 1, 9), ("k", "9.0", 1, 1), ("c", "9.9", 1, 1)])
        self.assertEqual(scheme.parted(stock)["huge"], [])
        self.assertEqual([volume[0] for volume in scheme.lost(stock)], ["e", "f", "i", "l"])
        self.assertEqual(ahead["mid"], self.VOLUMES[1:3])
        self.assertEqual(ahead["huge"], [self.VOLUMES[7]])

    def test_what_is_told_is_new_each_time(self):
        scheme, stock = Scheme(RUNS), stock_of(self.VOLUMES)
        ahead = scheme.parted(stock)
        told = scheme.parted(stock)
        rows = list(told.values()) + list(ahead.values())
        self.assertEqual(len({id(row) for row in rows}), 16)
        for row in told.values():
            row.append(None)
        told["more"] = []
        del told["low"]
        self.assertEqual(scheme.parted(stock), ahead)
        self.assertEqual(stock.volumes(), self.VOLUMES)


class SplitTest(Case):
    def assert_left(self, scheme, kind, fields, call, *arguments):
        ahead = all_of(scheme)
        self.assert_refused(kind, fields, call, *arguments)
        self.assertEqual(all_of(scheme), ahead)

    def test_split_between(self):
        scheme = Scheme(RUNS[::-1])
        told = scheme.split("mid", "fresh", "9.5")
        self.assertIs(type(told), Scheme)
        self.assertEqual(told.runs(), RUNS[:2] + [("fresh", 1, "9.5", 0, 0, None)] + RUNS[2:])
        self.assertEqual(scheme.runs(), RUNS)
        told = scheme.split("big", "aa", "b")
        self.assertEqual(told.runs(), RUNS[:6] + [("aa", 3, "b", 600, 4, None)] + RUNS[6:])
        self.assertEqual(told.run("big"), RUNS[5])

    def test_split_ahead_of_the_end_and_behind_the_begin(self):
        scheme = Scheme(RUNS)
        self.assertEqual(scheme.split("mid", "fresh", "9.0").names()[1:4], ["mid", "fresh", "ten"])
        self.assertEqual(scheme.split("mid", "fresh", "9.zzzzzz").names()[1:4], ["mid", "fresh", "ten"])
        self.assertEqual(scheme.split("big", "fresh", "c.4.z").span("fresh"), (3, "c.4.z", "c.5"))

    def test_split_behind_a_run_without_a_begin(self):
        scheme = Scheme(RUNS)
        self.assertEqual(scheme.split("low", "fresh", "0").span("low"), (1, None, "0"))
        self.assertEqual(scheme.split("last", "fresh", "0").span("fresh"), (9, "0", None))
        self.assert_left(scheme, Outside, {"found": "9"}, scheme.split, "low", "fresh", "9")
        self.assert_left(scheme, Outside, {"found": "z"}, scheme.split, "low", "fresh", "z")

    def test_split_a_run_without_an_end(self):
        scheme = Scheme(RUNS)
        self.assertEqual(scheme.split("dot", "fresh", "zzzzzz").span("fresh"), (1, "zzzzzz", None))
        self.assertEqual(scheme.split("huge", "fresh", "c.5.0").span("huge"), (3, "c.5", "c.5.0"))
        self.assert_left(scheme, Outside, {"found": "b"}, scheme.split, "dot", "fresh", "b")
        self.assert_left(scheme, Outside, {"found": "b.0"}, scheme.split, "dot", "fresh", "b.0")

    def test_outside(self):
        scheme = Scheme(RUNS)
        for name, mark in [("mid", "9"), ("mid", "10"), ("mid", "8"), ("mid", "10.0"), ("mid", "a"), ("big", "a"),
                           ("big", "c.5"), ("big", "0"), ("big", "d"), ("huge", "c.5"), ("huge", "c"), ("let", "b"),
                           ("let", "b.0"), ("let", "b.a")]:
            self.assert_left(scheme, Outside, {"found": mark}, scheme.split, name, "fresh", mark)

    def test_refused(self):
        scheme = Scheme(RUNS)
        for thing in ODD_THINGS + ODD_NUMBERS + ["abcdefghi", 1]:
            self.assert_left(scheme, NoName, {"found": thing}, scheme.split, "mid", thing, "9.5")
            self.assert_left(scheme, NoName, {"found": thing}, scheme.split, "mid", thing, None)
        for run in RUNS:
            self.assert_left(scheme, Taken, {"found": run[0]}, scheme.split, "mid", run[0], "9.5")
            self.assert_left(scheme, Taken, {"found": run[0]}, scheme.split, "mid", run[0], ["mark"])
        for thing in ODD_THINGS + ODD_NUMBERS + [9, "a.01", "abcdefg"]:
            for name in ["low", "mid", "dot", "last"]:
                self.assert_left(scheme, NoMark, {"found": thing}, scheme.split, name, "fresh", thing)

    def test_twelve_runs(self):
        scheme = Scheme(twelve())
        for name in names(12)[:-1]:
            mark = scheme.run(name)[2] + ".5"
            self.assert_left(scheme, TooMany, {"count": 13}, scheme.split, name, "fresh", mark)
        self.assert_left(scheme, TooMany, {"count": 13}, scheme.split, "al", "fresh", "z")
        self.assert_left(scheme, Unknown, {"found": "zz"}, scheme.split, "zz", "Z", ["mark"])
        self.assert_left(scheme, NoName, {"found": "Z"}, scheme.split, "aa", "Z", ["mark"])
        self.assert_left(scheme, Taken, {"found": "ab"}, scheme.split, "aa", "ab", "A")
        self.assert_left(scheme, NoMark, {"found": "A"}, scheme.split, "aa", "fresh", "A")
        self.assert_left(scheme, Outside, {"found": "1"}, scheme.split, "aa", "fresh", "1")
        self.assertEqual(len(Scheme(twelve()[:11]).split("ak", "fresh", "z").runs()), 12)
        # A run without a begin and an end, behind which any mark may stand.
        scheme = Scheme(twelve()[:11] + [("zz", 2, None, 1, 1, None)])
        self.assert_left(scheme, NoMark, {"found": None}, scheme.split, "zz", "fresh", None)
        self.assert_left(scheme, TooMany, {"count": 13}, scheme.split, "zz", "fresh", "0")

    def test_the_volumes_of_the_one_belong_to_the_two(self):
        marks = ["8", "9", "9.0", "9.1", "9.1.z", "9.2", "9.a", "10", "a"]
        stock = stock_of([(name, mark, 1, 1) for name, mark in zip(names(9), marks)])
        scheme = Scheme(RUNS)
        for mark in ["9.0", "9.1", "9.1.5", "9.zz"]:
            ahead, parted = scheme.parted(stock), scheme.split("mid", "fresh", mark).parted(stock)
            self.assertEqual(parted["mid"] + parted["fresh"], ahead["mid"])
            for volume in ahead["mid"]:
                self.assertIs(volume in parted["mid"], mark_ahead(volume[1], mark))
            for run in RUNS[:1] + RUNS[2:]:
                self.assertEqual(parted[run[0]], ahead[run[0]])


class JoinedTest(Case):
    def test_the_first_one_has_all_it_had(self):
        scheme = Scheme(RUNS[::-1])
        told = scheme.joined("mid")
        self.assertIs(type(told), Scheme)
        self.assertEqual(told.runs(), [RUNS[0], ("mid", 1, "9", 999, 999, "shelf")] + RUNS[3:])
        self.assertEqual(scheme.runs(), RUNS)
        self.assertEqual(scheme.joined("low").runs(), [("low", 1, None, 5, 10, None)] + RUNS[2:])
        self.assertEqual(scheme.joined("let").runs(), RUNS[:3] + [("let", 1, "b", 3, 7, "aa")] + RUNS[5:])

    def test_the_growth_is_at_most_999(self):
        self.assertEqual(Scheme(RUNS).joined("big").run("big"), ("big", 3, "a", 999, 4, "bb"))
        self.assertEqual(Scheme(RUNS).joined("ten").run("ten"), ("ten", 1, "10", 999, 999, None))
        for one, other, growth in [(0, 0, 0), (1, 998, 999), (0, 999, 999), (500, 499, 999), (500, 500, 999),
                                   (2, 998, 999), (999, 999, 999), (3, 4, 7)]:
            runs = [("a", 1, None, one, 0, None), ("b", 1, "a", other, 0, None)]
            self.assertEqual(Scheme(runs).joined("a").runs(), [("a", 1, None, growth, 0, None)])

    def test_the_keep_is_the_greater_one(self):
        for one, other in [(0, 0), (3, 4), (4, 3), (999, 0), (0, 999)]:
            runs = [("a", 1, "a", 0, one, "aa"), ("b", 1, "b", 0, other, "bb")]
            self.assertEqual(Scheme(runs).joined("a").runs(), [("a", 1, "a", 0, max(one, other), "aa")])

    def test_the_shelf_is_the_first_ones(self):
        runs = [("a", 1, "a", 0, 0, None), ("b", 1, "b", 0, 0, "bb")]
        self.assertEqual(Scheme(runs).joined("a").runs(), runs[:1])

    def test_alone(self):
        scheme = Scheme(RUNS)
        for name in ["dot", "huge", "last"]:
            self.assert_found(Alone, name, scheme.joined, name)
        self.assert_found(Alone, "a", Scheme([GOOD]).joined, "a")
        self.assertEqual(scheme.runs(), RUNS)

    def test_joined_and_split_again(self):
        scheme = Scheme(RUNS)
        told = scheme.joined("low").split("low", "mid", "9")
        self.assertEqual(told.names(), scheme.names())
        self.assertEqual(told.run("mid"), ("mid", 1, "9", 5, 10, None))
        told = Scheme(twelve())
        for _ in range(11):
            told = told.joined("aa")
        self.assertEqual(told.runs(), [("aa", 1, "0", 12, 1, None)])
        self.assert_found(Alone, "aa", told.joined, "aa")

    def test_many_splits_and_joins(self):
        for begin in range(8):
            numbers = Numbers(begin)
            scheme = Scheme([("zz", 1, None, 1, 0, None), ("yy", 2, "b", 1, 0, None)])
            stock = stock_of([(name, numbers.one_of("abc") + "." + str(numbers.below(9)), 1 + numbers.below(2), 1)
                              for name in names(40)])
            for fresh in names(30):
                if numbers.below(3):
                    begins = [run[2] for run in scheme.runs()]
                    mark = numbers.one_of("abc") + "." + str(numbers.below(9))
                    name = scheme.run_of(("v", mark, 1, 1))
                    if mark not in begins and len(begins) < 12:
                        scheme = scheme.split(name, fresh, mark)
                elif len([run for run in scheme.runs() if run[1] == 1]) > 1:
                    scheme = scheme.joined(scheme.names()[0])
                parted = scheme.parted(stock)
                held = [volume for row in parted.values() for volume in row]
                self.assertEqual(sorted(held + scheme.lost(stock)), sorted(stock.volumes()))
                self.assertEqual(scheme.lost(stock), [volume for volume in stock.volumes()
                                                      if run_by_the_words(scheme.runs(), volume) is None])


if __name__ == "__main__":
    unittest.main()
