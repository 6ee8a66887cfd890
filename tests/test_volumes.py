"""Point 20, and volumes of points 2, 3 and 5."""

import itertools
import unittest

from shelvesmoved.errors import NoMark, NoName, NoNumber, NoVolume
from shelvesmoved.volumes import are_in_order, is_volume, need_volume, volume_ahead
from tests.things import ODD_NUMBERS, ODD_THINGS, Case

# All in order: by size, then by mark, then by name, whatever the width is.
ORDERED = [
    ("z", "0", 1, 99), ("y", "9", 1, 1), ("x", "10", 1, 50), ("c", "a", 1, 3), ("ca", "a", 1, 2), ("d", "a", 1, 1),
    ("w", "a.0", 1, 7), ("b", "b", 1, 1), ("a", "0", 2, 98), ("v", "0.0", 2, 4), ("u", "zzzzzz", 8, 1),
    ("aa", "1", 9, 99), ("abcdefgh", "1", 9, 1), ("t", "2", 9, 1),
]

NO_VOLUMES = [
    (), ("a", "b", 1), ("a", "b", 1, 1, 1), ["a", "b", 1, 1], ["a", "b", 1], "abcd", "a", "", None, True, False, 0, 7,
    {}, {"a": 1, "b": 2, "c": 3, "d": 4}, (("a", "b", 1, 1),), [("a", "b", 1, 1)], NoName("a"), (1, 2, 3), [1] * 4,
]


class NeedVolumeTest(Case):
    def assert_no_volume(self, kind, found, thing):
        self.assert_found(kind, found, need_volume, thing)
        self.assertIs(is_volume(thing), False, repr(thing))
        self.assert_found(kind, found, volume_ahead, thing, ORDERED[0])
        self.assert_found(kind, found, volume_ahead, ORDERED[0], thing)
        self.assertIs(are_in_order([thing]), False)
        self.assertIs(are_in_order((ORDERED[0], thing)), False)

    def test_volumes(self):
        for volume in ORDERED:
            self.assertIs(need_volume(volume), None)
            self.assertIs(is_volume(volume), True)

    def test_no_tuple_of_four_things(self):
        for thing in NO_VOLUMES + ODD_NUMBERS:
            self.assert_no_volume(NoVolume, thing, thing)

    def test_odd_things(self):
        for thing in ODD_THINGS:
            self.assert_no_volume(NoVolume, thing, thing)

    def test_names(self):
        for found in ODD_THINGS + ODD_NUMBERS + ["abcdefghi", "A", "a1", "a.b", 1]:
            self.assert_no_volume(NoName, found, (found, "b", 1, 1))

    def test_marks(self):
        for found in ODD_THINGS + ODD_NUMBERS + ["abcdefg", "01", "1000000", "a.b.c.d.e", "qa.76.b3", 7]:
            self.assert_no_volume(NoMark, found, ("a", found, 1, 1))

    def test_sizes(self):
        for size in range(-2, 13):
            volume = ("a", "b", size, 1)
            if 1 <= size <= 9:
                self.assertIs(is_volume(volume), True)
                self.assertIs(need_volume(volume), None)
            else:
                self.assert_no_volume(NoNumber, size, volume)

    def test_widths(self):
        for width in range(-2, 103):
            volume = ("a", "b", 1, width)
            if 1 <= width <= 99:
                self.assertIs(is_volume(volume), True)
                self.assertIs(need_volume(volume), None)
            else:
                self.assert_no_volume(NoNumber, width, volume)

    def test_no_sizes_and_no_widths(self):
        for found in ODD_THINGS + ODD_NUMBERS + [True, False, "1", "5", None]:
            self.assert_no_volume(NoNumber, found, ("a", "b", found, 1))
            self.assert_no_volume(NoNumber, found, ("a", "b", 1, found))

    def test_the_order_of_looking(self):
        name, mark, size, width = ["name"], ["mark"], ["size"], ["width"]
        self.assert_no_volume(NoName, name, (name, mark, size, width))
        self.assert_no_volume(NoMark, mark, ("a", mark, size, width))
        self.assert_no_volume(NoNumber, size, ("a", "b", size, width))
        self.assert_no_volume(NoNumber, width, ("a", "b", 1, width))
        five = (name, mark, size, width, 1)
        self.assert_no_volume(NoVolume, five, five)
        listed = [name, mark, size, width]
        self.assert_no_volume(NoVolume, listed, listed)

    def test_every_way_to_be_spoilt(self):
        good, bad = ("a", "b", 1, 1), (["name"], ["mark"], ["size"], ["width"])
        kinds = (NoName, NoMark, NoNumber, NoNumber)
        for spoilt in itertools.product([False, True], repeat=4):
            if any(spoilt):
                thing = tuple(bad[at] if spoilt[at] else good[at] for at in range(4))
                first = spoilt.index(True)
                self.assert_no_volume(kinds[first], bad[first], thing)


class VolumeAheadTest(Case):
    def test_each_stands_ahead_of_all_that_follow(self):
        for at, one in enumerate(ORDERED):
            for behind, other in enumerate(ORDERED):
                self.assertIs(volume_ahead(one, other), at < behind, (one, other))

    def test_the_size_goes_ahead_of_the_mark_and_the_mark_ahead_of_the_name(self):
        self.assertIs(volume_ahead(("z", "z", 1, 1), ("a", "0", 2, 1)), True)
        self.assertIs(volume_ahead(("z", "9", 1, 1), ("a", "10", 1, 1)), True)
        self.assertIs(volume_ahead(("a", "10", 1, 1), ("z", "9", 1, 1)), False)
        self.assertIs(volume_ahead(("a", "9", 1, 1), ("b", "9", 1, 1)), True)

    def test_the_width_tells_nothing(self):
        one, other = ("a", "b", 1, 1), ("a", "b", 1, 2)
        self.assertIs(volume_ahead(one, other), False)
        self.assertIs(volume_ahead(other, one), False)
        self.assertIs(volume_ahead(one, one), False)

    def test_of_two_spoilt_ones_the_first_one_is_refused(self):
        self.assert_found(NoNumber, 0, volume_ahead, ("a", "b", 1, 0), None)
        self.assert_found(NoNumber, 100, volume_ahead, ("a", "b", 1, 100), ("A", "b", 1, 1))
        self.assert_found(NoVolume, None, volume_ahead, None, ("A", "b", 1, 1))
        self.assert_found(NoMark, "B", volume_ahead, ("a", "B", 1, 1), ("A", "b", 1, 1))


class InOrderTest(Case):
    def test_none_and_one(self):
        self.assertIs(are_in_order([]), True)
        self.assertIs(are_in_order(()), True)
        for volume in ORDERED:
            self.assertIs(are_in_order([volume]), True)
            self.assertIs(are_in_order((volume,)), True)

    def test_all_in_order(self):
        self.assertIs(are_in_order(ORDERED), True)
        self.assertIs(are_in_order(tuple(ORDERED)), True)
        self.assertIs(are_in_order(ORDERED[::2]), True)

    def test_out_of_order(self):
        self.assertIs(are_in_order(ORDERED[::-1]), False)
        for at in range(len(ORDERED) - 1):
            turned = list(ORDERED)
            turned[at], turned[at + 1] = turned[at + 1], turned[at]
            self.assertIs(are_in_order(turned), False)
            self.assertIs(are_in_order(tuple(turned)), False)

    def test_every_order_of_four(self):
        some = ORDERED[2:10:2]
        for turned in itertools.permutations(some):
            self.assertIs(are_in_order(turned), list(turned) == some)

    def test_one_name_twice(self):
        self.assertIs(are_in_order([("a", "b", 1, 1), ("a", "b", 1, 1)]), False)
        self.assertIs(are_in_order([("a", "b", 1, 1), ("a", "b", 1, 2)]), False)
        self.assertIs(are_in_order([("a", "b", 1, 1), ("a", "c", 1, 1)]), False)
        self.assertIs(are_in_order([("a", "b", 1, 1), ("a", "b", 2, 1)]), False)

    def test_one_name_twice_not_side_by_side(self):
        self.assertIs(are_in_order([("a", "b", 1, 1), ("b", "c", 1, 1), ("a", "d", 1, 1)]), False)
        for at in range(len(ORDERED)):
            again = ORDERED + [(ORDERED[at][0], "z", 9, 1)]
            self.assertIs(are_in_order(again), False)
            self.assertIs(are_in_order(tuple(again)), False)

    def test_things_that_are_no_volumes(self):
        for thing in ODD_THINGS + ODD_NUMBERS + NO_VOLUMES + [("a", "b", 0, 1), ("a", "b", 1, 100)]:
            self.assertIs(are_in_order([thing]), False, repr(thing))
            self.assertIs(are_in_order(ORDERED + [thing]), False)
            self.assertIs(are_in_order([thing] + ORDERED), False)
            self.assertIs(are_in_order(tuple(ORDERED[:3] + [thing] + ORDERED[3:])), False)

    def test_things_stay_as_they_were(self):
        things = list(ORDERED[::-1])
        self.assertIs(are_in_order(things), False)
        self.assertIs(are_in_order(things), False)
        self.assertEqual(things, ORDERED[::-1])


if __name__ == "__main__":
    unittest.main()
