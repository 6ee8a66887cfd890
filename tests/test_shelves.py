"""Points 40 to 45, houses of point 7, and shelves of points 2 to 6."""

import itertools
import unittest

from shelvesmoved.errors import (Broken, NoMark, NoName, NoNumber, NoRoom, NoRows, NoShelf, NoVolume, ShelvesError,
                                 Taken, TooLow, TooMany, Unknown)
from shelvesmoved.shelves import House, house_of
from shelvesmoved.volumes import volume_ahead
from tests.things import ODD_NUMBERS, ODD_THINGS, Case, Numbers, is_as_promised, names

GOOD = ("a", 1, 1)

SHELVES = [("one", 3, 100), ("two", 1, 50), ("three", 9, 999), ("four", 2, 10), ("five", 9, 40)]

# In order, as they stand below: the fourth shelf is without volumes.
ROWS = [
    [("a", "9", 1, 30), ("b", "10", 1, 30), ("c", "a", 1, 5)],
    [("d", "a", 1, 50)],
    [("f", "a", 1, 1), ("g", "a", 1, 99), ("h", "b", 3, 1)],
    [],
    [("i", "a", 9, 39)],
]

NO_NAMES_THERE = ["zz", "on", "onee", "ONE", 0, 1, ("one",), ["one"], {"one": 1}, SHELVES[0], SHELVES, ["a"], ("a",)]


def standing():
    return house_of(SHELVES, ROWS)


def full():
    """A house in which sixty volumes stand."""
    rows = [[(name, "b", 2, 5) for name in names(60)[at:at + 20]] for at in (0, 20, 40)]
    return house_of([("sa", 2, 100), ("sb", 2, 100), ("sc", 2, 200), ("sd", 1, 4), ("se", 9, 99)], rows + [[], []])


def all_of(house):
    """All that a house tells of itself."""
    told = [shelf[0] for shelf in house.shelves()]
    return [house.shelves(), house.rows(), house.volumes(), house.many(), [house.row(name) for name in told],
            [house.free(name) for name in told], [house.where(volume[0]) for volume in house.volumes()]]


class HouseCase(Case):
    def assert_left(self, house, kind, fields, call, *arguments):
        """The call is refused, and the house stands as it stood."""
        ahead = all_of(house)
        self.assert_refused(kind, fields, call, *arguments)
        self.assertEqual(all_of(house), ahead)


class HouseTest(HouseCase):
    def assert_no_shelf(self, kind, found, shelf):
        """The shelf is refused alone, and among others, wherever it stands."""
        others = [("oo", 9, 9), ("pp", 9, 9)]
        for at in range(3):
            shelves = others[:at] + [shelf] + others[at:]
            for call in [House, lambda handed: house_of(handed, None)]:
                self.assert_found(kind, found, call, shelves)
                self.assert_found(kind, found, call, tuple(shelves))
        self.assert_found(kind, found, House, [shelf])

    def test_none_and_one(self):
        for shelves in [[], ()]:
            self.assertEqual(all_of(House(shelves)), [[], [], [], 0, [], [], []])
        for shelves in [[GOOD], (GOOD,)]:
            self.assertEqual(all_of(House(shelves)), [[GOOD], [[]], [], 0, [[]], [1], []])

    def test_at_first_no_volume_stands_there(self):
        house = House(SHELVES)
        self.assertEqual(all_of(house), [SHELVES, [[]] * 5, [], 0, [[]] * 5, [100, 50, 999, 10, 40], []])

    def test_forty_and_forty_one(self):
        forty = [(name, 9, 999) for name in names(40)]
        self.assertEqual(House(forty).shelves(), forty)
        self.assertEqual(House(tuple(forty)).shelves(), forty)
        for more in [[("zz", 1, 1)], [None], [forty[0]], [None] * 160]:
            shelves = forty + more
            self.assert_refused(TooMany, {"count": len(shelves)}, House, shelves)
            self.assert_refused(TooMany, {"count": len(shelves)}, House, tuple(shelves))
        self.assert_refused(TooMany, {"count": 41}, House, [None] * 41)
        self.assert_refused(TooMany, {"count": 41}, house_of, [None] * 41, None)

    def test_no_list_and_no_tuple(self):
        for thing in ODD_THINGS + ODD_NUMBERS + [{"a": GOOD}, House([])]:
            if not isinstance(thing, (list, tuple)):
                self.assert_found(NoShelf, thing, House, thing)
                self.assert_found(NoShelf, thing, house_of, thing, thing)

    def test_a_shelf_is_handed_in_bare(self):
        self.assert_found(NoShelf, "a", House, GOOD)

    def test_no_tuple_of_three_things(self):
        for thing in ODD_THINGS + ODD_NUMBERS + [GOOD[:2], GOOD + (1,), list(GOOD), "abc", (), {"a": 1}]:
            if not isinstance(thing, tuple) or len(thing) != 3:
                self.assert_no_shelf(NoShelf, thing, thing)
        self.assert_no_shelf(NoNumber, "A", ("a", "A", 1))

    def test_each_thing_of_a_shelf(self):
        for thing in ODD_THINGS + ODD_NUMBERS + ["abcdefghi", "a1"]:
            self.assert_no_shelf(NoName, thing, (thing, 1, 1))
            self.assert_no_shelf(NoName, thing, (thing, thing, thing))
        for thing in ODD_THINGS + ODD_NUMBERS + [0, 10, True, "1"]:
            self.assert_no_shelf(NoNumber, thing, ("a", thing, 1))
            self.assert_no_shelf(NoNumber, thing, ("a", thing, 0))
        for thing in ODD_THINGS + ODD_NUMBERS + [0, 1000, True, "1"]:
            self.assert_no_shelf(NoNumber, thing, ("a", 1, thing))

    def test_at_the_bounds(self):
        for shelf in [("a", 1, 1), ("abcdefgh", 9, 999), ("a", 9, 1), ("a", 1, 999)]:
            self.assertEqual(House([shelf]).shelves(), [shelf])

    def test_taken(self):
        for shelf in [("a", 2, 2), GOOD, ("a", ["height"], ["length"])]:
            self.assert_found(Taken, "a", House, [GOOD, shelf])
            self.assert_found(Taken, "a", House, (GOOD, ("b", 1, 1), shelf))

    def test_shelf_by_shelf(self):
        self.assert_found(Taken, "a", House, [GOOD, GOOD, None])
        self.assert_found(NoShelf, None, House, [GOOD, None, GOOD])
        self.assert_found(NoNumber, 0, House, [GOOD, ("b", 1, 0), ("a", 1, 1)])

    def test_what_is_handed_in_may_be_changed_behind(self):
        shelves = list(SHELVES)
        house = House(shelves)
        shelves.pop()
        shelves[0] = None
        self.assertEqual(house.shelves(), SHELVES)


class StandTest(HouseCase):
    def test_the_place_is_told(self):
        house = House(SHELVES)
        self.assertEqual(house.stand("three", ("b", "10", 1, 5)), 0)
        self.assertEqual(house.stand("three", ("a", "9", 1, 5)), 0)
        self.assertEqual(house.stand("three", ("d", "a", 9, 5)), 2)
        self.assertEqual(house.stand("three", ("c", "a", 5, 5)), 2)
        self.assertEqual(house.stand("three", ("e", "z", 9, 5)), 4)
        self.assertEqual(house.stand("five", ("f", "z", 9, 5)), 0)
        self.assertIs(type(house.stand("one", ("g", "0", 1, 5))), int)
        self.assertEqual([volume[0] for volume in house.volumes()], ["g", "a", "b", "c", "d", "e", "f"])

    def test_in_whatever_order_they_are_put(self):
        some = [ROWS[0][0], ROWS[0][2], ROWS[2][0], ROWS[2][2], ROWS[4][0]]
        shelves = ["one", "one", "three", "three", "five"]
        for turned in itertools.permutations(range(5)):
            house = House(SHELVES)
            for at in turned:
                place = house.stand(shelves[at], some[at])
                self.assertEqual(house.where(some[at][0]), (shelves[at], place))
                self.assertIs(is_as_promised(house), True)
            self.assertEqual(house.rows(), [some[:2], [], some[2:4], [], some[4:]])

    def test_unknown(self):
        house = standing()
        for thing in ODD_THINGS + ODD_NUMBERS + NO_NAMES_THERE + ["a"]:
            self.assert_left(house, Unknown, {"found": thing}, house.stand, thing, ("e", "a", 1, 1))
            self.assert_left(house, Unknown, {"found": thing}, house.stand, thing, None)
            self.assert_left(house, Unknown, {"found": thing}, house.shift, "a", thing)
            self.assert_left(house, Unknown, {"found": thing}, house.row, thing)
            self.assert_left(house, Unknown, {"found": thing}, house.free, thing)

    def test_what_is_no_volume(self):
        house = standing()
        for thing in ODD_THINGS + ODD_NUMBERS + [list(ROWS[0][0]), ROWS[0][0][:3], SHELVES[0], "abcd", "a"]:
            self.assert_left(house, NoVolume, {"found": thing}, house.stand, "one", thing)
        for thing in ODD_THINGS + ODD_NUMBERS:
            self.assert_left(house, NoName, {"found": thing}, house.stand, "one", (thing, "a", 1, 1))
            self.assert_left(house, NoMark, {"found": thing}, house.stand, "one", ("a", thing, 1, 1))
            self.assert_left(house, NoNumber, {"found": thing}, house.stand, "one", ("a", "a", thing, 1))
            self.assert_left(house, NoNumber, {"found": thing}, house.stand, "one", ("a", "a", 1, thing))

    def test_taken(self):
        house = standing()
        for volume in house.volumes():
            for shelf, _, _ in SHELVES:
                self.assert_left(house, Taken, {"found": volume[0]}, house.stand, shelf, volume)
                self.assert_left(house, Taken, {"found": volume[0]}, house.stand, shelf, (volume[0], "a", 9, 99))

    def test_sixty_and_one_more(self):
        house = full()
        self.assertEqual(house.many(), 60)
        for shelf, volume in [("se", ("zz", "z", 9, 9)), ("sd", ("zz", "0", 9, 99)), ("sc", ("zz", "b", 2, 1))]:
            self.assert_left(house, TooMany, {"count": 61}, house.stand, shelf, volume)
        house.take("aa")
        self.assertEqual(house.stand("se", ("zz", "z", 9, 9)), 0)
        self.assert_left(house, TooMany, {"count": 61}, house.stand, "sa", ("aa", "b", 2, 5))

    def test_too_low(self):
        for height in range(1, 10):
            for size in range(1, 10):
                house = House([("sh", height, 99)])
                volume = ("v", "a", size, 9)
                if size <= height:
                    self.assertEqual(house.stand("sh", volume), 0)
                else:
                    self.assert_left(house, TooLow, {"found": "v", "shelf": "sh"}, house.stand, "sh", volume)

    def test_just_full_and_wider_by_one(self):
        house = House([("sh", 1, 20), ("si", 1, 99)])
        self.assert_left(house, NoRoom, {"found": "sh"}, house.stand, "sh", ("a", "a", 1, 21))
        self.assertEqual(house.stand("sh", ("a", "a", 1, 12)), 0)
        self.assert_left(house, NoRoom, {"found": "sh"}, house.stand, "sh", ("b", "0", 1, 9))
        self.assertEqual(house.stand("sh", ("b", "0", 1, 8)), 0)
        self.assertEqual(house.free("sh"), 0)
        self.assert_left(house, NoRoom, {"found": "sh"}, house.stand, "sh", ("c", "0", 1, 1))
        self.assertEqual(house.stand("si", ("c", "b", 1, 99)), 0)
        self.assertEqual(house.free("si"), 0)

    def test_the_order_of_refusals(self):
        house = full()
        name, mark, size, width = ["name"], ["mark"], ["size"], ["width"]
        self.assert_left(house, Unknown, {"found": name}, house.stand, name, None)
        self.assert_left(house, NoVolume, {"found": None}, house.stand, "sd", None)
        self.assert_left(house, NoName, {"found": name}, house.stand, "sd", (name, mark, size, width))
        self.assert_left(house, NoMark, {"found": mark}, house.stand, "sd", ("aa", mark, size, width))
        self.assert_left(house, NoNumber, {"found": size}, house.stand, "sd", ("aa", "z", size, width))
        self.assert_left(house, NoNumber, {"found": width}, house.stand, "sd", ("aa", "z", 2, width))
        self.assert_left(house, Taken, {"found": "aa"}, house.stand, "sd", ("aa", "z", 2, 9))
        self.assert_left(house, TooMany, {"count": 61}, house.stand, "sd", ("zz", "0", 2, 9))
        house.take("aa")
        # Too low, too short, and against the order.
        self.assert_left(house, TooLow, {"found": "zz", "shelf": "sd"}, house.stand, "sd", ("zz", "0", 2, 9))
        self.assert_left(house, NoRoom, {"found": "sd"}, house.stand, "sd", ("zz", "0", 1, 5))
        self.assert_left(house, Broken, {"found": "zz"}, house.stand, "sd", ("zz", "0", 1, 4))

    def test_among_others_of_its_mark(self):
        self.assertEqual(standing().stand("one", ("ca", "a", 1, 1)), 3)
        house = standing()
        house.take("d")
        self.assertEqual(house.stand("one", ("d", "a", 1, 1)), 3)
        self.assertEqual(house.stand("two", ("e", "a", 1, 1)), 0)
        self.assertEqual(house.stand("three", ("ff", "a", 1, 1)), 1)
        self.assertEqual(house.stand("three", ("gg", "a", 1, 1)), 3)
        # One that stands ahead of the others of its mark on the shelf ahead, or behind those on the one behind.
        self.assert_left(house, Broken, {"found": "cc"}, house.stand, "two", ("cc", "a", 1, 1))
        self.assert_left(house, Broken, {"found": "fa"}, house.stand, "two", ("fa", "a", 1, 1))
        self.assert_left(house, Broken, {"found": "aa"}, house.stand, "three", ("aa", "a", 1, 1))
        self.assert_left(house, Broken, {"found": "dd"}, house.stand, "three", ("dd", "a", 1, 1))
        self.assert_left(house, Broken, {"found": "ee"}, house.stand, "one", ("ee", "a", 1, 1))

    def test_empty_shelves_between(self):
        shelves = [(name, 9, 99) for name in names(7)]
        for there, at in itertools.product(range(7), repeat=2):
            house = House(shelves)
            house.stand(shelves[there][0], ("m", "m", 5, 1))
            for volume, ahead in [(("l", "m", 5, 1), True), (("n", "m", 5, 1), False), (("z", "l", 5, 1), True),
                                  (("a", "n", 5, 1), False), (("z", "z", 4, 1), True), (("a", "0", 6, 1), False)]:
                if at == there or (at < there) == ahead:
                    self.assertEqual(house.stand(shelves[at][0], volume), 0 if ahead or at != there else 1)
                    self.assertEqual(house.take(volume[0]), volume)
                else:
                    self.assert_left(house, Broken, {"found": volume[0]}, house.stand, shelves[at][0], volume)

    def test_broken_by_the_words(self):
        some = [("m", "9", 1, 1), ("c", "10", 1, 1), ("d", "10", 1, 1), ("b", "a", 2, 1), ("a", "a", 3, 1)]
        shelves = [(name, 9, 99) for name in names(4)]
        for put in itertools.product(range(4), repeat=4):
            house, rows = House(shelves), [[], [], [], []]
            for at, volume in zip(put, some[1::2] + some[::2]):
                ahead = [other for row in rows[:at] for other in row]
                behind = [other for row in rows[at + 1:] for other in row]
                if (any(volume_ahead(volume, other) for other in ahead)
                        or any(volume_ahead(other, volume) for other in behind)):
                    self.assert_left(house, Broken, {"found": volume[0]}, house.stand, shelves[at][0], volume)
                else:
                    rows[at] = [other for other in some if other in rows[at] or other == volume]
                    self.assertEqual(house.stand(shelves[at][0], volume), rows[at].index(volume))
            self.assertEqual(house.rows(), rows)


class TakeTest(HouseCase):
    def test_the_volume_is_told(self):
        for volume in standing().volumes():
            house = standing()
            self.assertEqual(house.take(volume[0]), volume)
            self.assertEqual(house.rows(), [[other for other in row if other != volume] for row in ROWS])
            self.assertEqual(house.where(volume[0]), None)
            self.assert_left(house, Unknown, {"found": volume[0]}, house.take, volume[0])

    def test_unknown(self):
        house = standing()
        for thing in ODD_THINGS + ODD_NUMBERS + NO_NAMES_THERE + ["one", "e", "aa"]:
            self.assert_left(house, Unknown, {"found": thing}, house.take, thing)
            self.assert_left(house, Unknown, {"found": thing}, house.shift, thing, "one")
            self.assert_left(house, Unknown, {"found": thing}, house.shift, thing, thing)

    def test_put_back(self):
        house = standing()
        house.stand("one", house.take("b"))
        self.assertEqual(house.rows(), ROWS)


class ShiftTest(HouseCase):
    def test_to_its_own_shelf(self):
        house = standing()
        for volume in house.volumes():
            shelf, place = house.where(volume[0])
            self.assertEqual(house.shift(volume[0], shelf), place)
            self.assertEqual(house.rows(), ROWS)

    def test_to_its_own_full_shelf(self):
        house = House([("sh", 1, 10)])
        house.stand("sh", ("a", "a", 1, 6))
        house.stand("sh", ("b", "b", 1, 4))
        self.assertEqual(house.shift("a", "sh"), 0)
        self.assertEqual(house.shift("b", "sh"), 1)
        self.assertEqual(house.free("sh"), 0)

    def test_to_another_shelf(self):
        house = standing()
        self.assertEqual(house.shift("h", "five"), 0)
        self.assertEqual(house.where("h"), ("five", 0))
        self.assertEqual(house.where("i"), ("five", 1))
        self.assertEqual(house.shift("h", "three"), 2)
        self.assertEqual(house.shift("i", "three"), 3)
        self.assertEqual(house.rows(), [ROWS[0], ROWS[1], ROWS[2] + ROWS[4], [], []])
        self.assertEqual(house.shift("d", "three"), 0)
        self.assertEqual(house.shift("c", "two"), 0)
        self.assertIs(type(house.shift("f", "three")), int)
        self.assertEqual([[volume[0] for volume in row] for row in house.rows()],
                         [["a", "b"], ["c"], ["d", "f", "g", "h", "i"], [], []])

    def test_refused_it_stands_where_it_stood(self):
        house = standing()
        self.assert_left(house, TooLow, {"found": "i", "shelf": "four"}, house.shift, "i", "four")
        self.assert_left(house, TooLow, {"found": "h", "shelf": "two"}, house.shift, "h", "two")
        self.assert_left(house, NoRoom, {"found": "two"}, house.shift, "c", "two")
        self.assert_left(house, NoRoom, {"found": "five"}, house.shift, "g", "five")
        self.assert_left(house, NoRoom, {"found": "one"}, house.shift, "d", "one")
        self.assert_left(house, Broken, {"found": "f"}, house.shift, "f", "one")
        self.assert_left(house, Broken, {"found": "c"}, house.shift, "c", "three")
        self.assert_left(house, Broken, {"found": "f"}, house.shift, "f", "five")
        self.assert_left(house, Broken, {"found": "b"}, house.shift, "b", "three")

    def test_the_order_of_refusals(self):
        house = standing()
        self.assert_left(house, Unknown, {"found": "zz"}, house.shift, "zz", "yy")
        self.assert_left(house, Unknown, {"found": "yy"}, house.shift, "a", "yy")
        # h is too high for the second shelf, which is full, and would stand ahead of those on the third one.
        self.assert_left(house, TooLow, {"found": "h", "shelf": "two"}, house.shift, "h", "two")
        # g is too wide for the second shelf, and would stand ahead of f.
        self.assert_left(house, NoRoom, {"found": "two"}, house.shift, "g", "two")

    def test_in_a_house_with_sixty_volumes(self):
        house = full()
        last = names(60)[-1]
        self.assertEqual(house.shift(last, "se"), 0)
        self.assertEqual(house.shift(last, "sc"), 19)
        self.assertEqual(house.many(), 60)
        self.assert_left(house, NoRoom, {"found": "sb"}, house.shift, "aa", "sb")

    def test_a_refusal_has_the_very_name(self):
        house = standing()
        house.stand("three", ("hhh", "b", 5, 1))
        for shelf in ["two", "four"]:
            # Texts that are made while the test runs are alike, but not the very same.
            name, low = "".join(["h"] * 3), "".join(list(shelf))
            self.assert_left(house, TooLow, {"found": name, "shelf": low}, house.shift, name, low)


class AskedTest(HouseCase):
    def test_what_is_told(self):
        house = standing()
        self.assertEqual(house.shelves(), SHELVES)
        self.assertEqual(house.rows(), ROWS)
        self.assertEqual(house.volumes(), ROWS[0] + ROWS[1] + ROWS[2] + ROWS[4])
        self.assertEqual(house.many(), 8)
        for (name, _, length), row in zip(SHELVES, ROWS):
            self.assertEqual(house.row(name), row)
            self.assertEqual(house.free(name), length - sum(volume[3] for volume in row))
            for place, volume in enumerate(row):
                self.assertEqual(house.where(volume[0]), (name, place))
                self.assertIs(type(house.where(volume[0])), tuple)

    def test_where_of_any_thing(self):
        house = standing()
        for thing in ODD_THINGS + ODD_NUMBERS + NO_NAMES_THERE + ["one", "e", house, ROWS[0][0], ROWS]:
            self.assertIs(house.where(thing), None)
        self.assertIs(House([]).where("a"), None)

    def test_lists_are_new_each_time(self):
        house = standing()
        for ask in [house.shelves, house.rows, house.volumes, lambda: house.row("one"), lambda: house.row("four")]:
            self.assert_new_each_time(ask)

    def test_inner_lists_are_new_each_time(self):
        house = standing()
        told, again = house.rows(), house.rows()
        self.assertEqual(len({id(row) for row in told + again}), 10)
        for row in told:
            row.append(None)
            row.reverse()
        self.assertEqual(house.rows(), ROWS)
        self.assertEqual(house.volumes(), ROWS[0] + ROWS[1] + ROWS[2] + ROWS[4])


class HouseOfTest(HouseCase):
    def test_stands_as_told(self):
        house = house_of(SHELVES, ROWS)
        self.assertIs(type(house), House)
        self.assertEqual(house.rows(), ROWS)
        self.assertEqual(house_of(tuple(SHELVES), tuple(tuple(row) for row in ROWS)).rows(), ROWS)
        self.assertEqual(house_of(SHELVES, [tuple(ROWS[0]), *ROWS[1:]]).rows(), ROWS)

    def test_rows_in_any_order(self):
        for turned in itertools.permutations(ROWS[0]):
            for other in itertools.permutations(ROWS[2]):
                self.assertEqual(house_of(SHELVES, [turned, ROWS[1], list(other), (), ROWS[4]]).rows(), ROWS)

    def test_none(self):
        for rows in [[], ()]:
            self.assertEqual(all_of(house_of([], rows)), all_of(House([])))
            self.assertEqual(all_of(house_of((), rows)), all_of(House([])))

    def test_no_rows(self):
        for thing in ODD_THINGS + ODD_NUMBERS + [ROWS[:4], ROWS + [[]], ROWS[:4] + [None], [None] + ROWS[1:],
                                                 ROWS[:4] + ["ab"], ROWS[:4] + [{"a": 1}], [[]] * 4, [()] * 6, "abcde",
                                                 {"a": [], "b": [], "c": [], "d": [], "e": []}]:
            self.assert_found(NoRows, thing, house_of, SHELVES, thing)
        rows = [[]]
        self.assert_found(NoRows, rows, house_of, [], rows)
        for thing in [None, {}, "", 0, False]:
            self.assert_found(NoRows, thing, house_of, [], thing)

    def test_the_shelves_are_looked_at_first(self):
        self.assert_found(NoShelf, None, house_of, None, None)
        self.assert_found(NoNumber, 0, house_of, [("a", 1, 0)], [None])
        self.assert_found(NoRows, "rows", house_of, [GOOD], "rows")

    def test_all_rows_are_looked_at_ahead_of_the_volumes(self):
        rows = [[None], None]
        self.assert_found(NoRows, rows, house_of, SHELVES[:2], rows)

    def test_the_first_volume_that_cannot_be_put(self):
        good = ("k", "a", 1, 1)
        shelves = [("one", 1, 10), ("two", 2, 10)]
        for kind, found, bad in [
                (NoVolume, None, None), (NoName, "A", ("A", "a", 1, 1)), (NoMark, "A", ("a", "A", 1, 1)),
                (NoNumber, 0, ("a", "a", 0, 1)), (NoNumber, 100, ("a", "a", 1, 100)), (Taken, "k", ("k", "z", 1, 1)),
                (NoRoom, "one", ("l", "a", 1, 10))]:
            self.assert_found(kind, found, house_of, shelves, [[good, bad, 7], [8]])
        self.assert_refused(TooLow, {"found": "a", "shelf": "one"}, house_of, shelves, [[good, ("a", "a", 2, 1)], [8]])
        self.assert_found(Broken, "j", house_of, shelves, [[good], [("j", "a", 1, 1), None]])
        self.assert_found(Taken, "k", house_of, shelves, [[good], [good]])
        self.assert_found(NoVolume, 8, house_of, shelves, [[good], [8, good]])

    def test_sixty_one_volumes(self):
        rows = [[(name, "a", 1, 1) for name in names(60)], [("zz", "a", 1, 1)]]
        shelves = [("one", 1, 60), ("two", 1, 60)]
        self.assert_refused(TooMany, {"count": 61}, house_of, shelves, rows)
        self.assertEqual(house_of(shelves, [rows[0], []]).many(), 60)

    def test_what_is_handed_in_may_be_changed_behind(self):
        shelves, rows = list(SHELVES), [list(row) for row in ROWS]
        house = house_of(shelves, rows)
        self.assertEqual((shelves, rows), (SHELVES, ROWS))
        rows[0].clear()
        rows.pop()
        shelves.clear()
        self.assertEqual(house.rows(), ROWS)
        self.assertEqual(house.shelves(), SHELVES)
        house.take("a")
        self.assertEqual(rows[1:], ROWS[1:4])


class CopiedTest(HouseCase):
    def test_a_copy_stands_alike(self):
        house = standing()
        other = house.copied()
        self.assertIs(type(other), House)
        self.assertIsNot(other, house)
        self.assertEqual(all_of(other), all_of(house))
        self.assertEqual(all_of(House([]).copied()), all_of(House([])))

    def test_each_goes_its_own_way(self):
        house = standing()
        other = house.copied()
        house.take("a")
        house.shift("h", "five")
        house.stand("one", ("ab", "9", 1, 1))
        self.assertEqual(other.rows(), ROWS)
        ahead = all_of(house)
        other.take("i")
        other.stand("five", ("z", "z", 9, 40))
        other.shift("d", "three")
        self.assertEqual(all_of(house), ahead)
        self.assertEqual(house.where("d"), ("two", 0))
        self.assertEqual(other.where("d"), ("three", 0))

    def test_two_houses_have_nothing_in_common(self):
        one, other = House(SHELVES), House(SHELVES)
        one.stand("one", ROWS[0][0])
        self.assertEqual(other.rows(), [[], [], [], [], []])
        one, other = house_of(SHELVES, ROWS), house_of(SHELVES, ROWS)
        one.take("a")
        self.assertEqual(other.rows(), ROWS)


class ManyDeedsTest(HouseCase):
    def test_a_house_is_as_promised_behind_many_deeds(self):
        for begin in range(6):
            numbers = Numbers(begin)
            shelves = [(name, 2 + numbers.below(3), 9 + numbers.below(9)) for name in names(8)]
            house, done, refused = House(shelves), 0, 0
            for _ in range(250):
                name, shelf = numbers.one_of(names(40)), numbers.one_of(names(8))
                volume = (name, numbers.one_of(["9", "10", "a", "a.1"]), 1 + numbers.below(4), 1 + numbers.below(4))
                deed = numbers.below(5)
                ahead = all_of(house)
                try:
                    if deed < 3:
                        place = house.stand(shelf, volume)
                        self.assertEqual(house.where(name), (shelf, place))
                    elif deed == 3:
                        place = house.shift(name, shelf)
                        self.assertEqual(house.where(name), (shelf, place))
                    else:
                        self.assertIn(house.take(name), ahead[2])
                        self.assertIs(house.where(name), None)
                    done += 1
                except ShelvesError:
                    self.assertEqual(all_of(house), ahead)
                    refused += 1
                self.assertIs(is_as_promised(house), True)
            self.assertGreater(done, 20)
            self.assertGreater(refused, 20)


if __name__ == "__main__":
    unittest.main()
