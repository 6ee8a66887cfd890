"""Points 21 to 24, and stocks of points 4, 5 and 6."""

import itertools
import unittest

from shelvesmoved.errors import NoMark, NoName, NoNumber, NoVolume, Taken, TooMany, Unknown
from shelvesmoved.stock import Stock
from shelvesmoved.volumes import are_in_order
from tests.things import ODD_NUMBERS, ODD_THINGS, Case, Numbers, names, stock_of

# All in order: by size, then by mark, then by name, whatever the width is.
ORDERED = [
    ("z", "0", 1, 99), ("y", "9", 1, 1), ("x", "10", 1, 50), ("c", "a", 1, 3), ("ca", "a", 1, 2), ("d", "a", 1, 1),
    ("w", "a.0", 1, 7), ("b", "b", 1, 1), ("a", "a", 2, 98), ("v", "a", 2, 4), ("t", "2", 9, 1),
]

NO_NAMES_THERE = ["zz", "e", "abcdefghi", "Z", "z ", "0", "a.0", 0, 1, ("z",), ["z"], {"z": 1}, ORDERED[0]]


def sixty():
    return [(name, "a", 1, 99) for name in names(60)]


def all_of(stock):
    """All that a stock tells of itself."""
    told = stock.names()
    return [stock.volumes(), told, stock.many(), stock.total(), [stock.volume(name) for name in told],
            [stock.spot(name) for name in told], [stock.alike(name) for name in told],
            [stock.of_mark(size, mark) for size in (1, 2, 9) for mark in ("0", "a", "a.0", "b", "2")]]


class StockCase(Case):
    def assert_left(self, stock, kind, fields, call, *arguments):
        """The call is refused, and the stock tells just what it told ahead."""
        ahead = all_of(stock)
        self.assert_refused(kind, fields, call, *arguments)
        self.assertEqual(all_of(stock), ahead)

    def assert_unknown(self, stock, call, *more):
        for thing in ODD_THINGS + ODD_NUMBERS + NO_NAMES_THERE:
            self.assert_left(stock, Unknown, {"found": thing}, call, thing, *more)


class PutInTest(StockCase):
    def test_at_first_there_are_none(self):
        stock = Stock()
        self.assertEqual(all_of(stock), [[], [], 0, 0, [], [], [], [[]] * 15])

    def test_the_place_is_told(self):
        stock = Stock()
        self.assertEqual(stock.put_in(ORDERED[3]), 0)
        self.assertEqual(stock.put_in(ORDERED[5]), 1)
        self.assertEqual(stock.put_in(ORDERED[4]), 1)
        self.assertEqual(stock.put_in(ORDERED[0]), 0)
        self.assertEqual(stock.put_in(ORDERED[10]), 4)
        self.assertEqual(stock.put_in(ORDERED[8]), 4)
        self.assertIs(type(stock.put_in(ORDERED[9])), int)

    def test_in_whatever_order_they_are_put_in(self):
        some = ORDERED[1:10:2]
        for turned in itertools.permutations(some):
            stock = Stock()
            there = []
            for volume in turned:
                there = [other for other in some if other in there or other == volume]
                self.assertEqual(stock.put_in(volume), there.index(volume))
                self.assertEqual(stock.volumes(), there)

    def test_all_in_order_and_turned(self):
        self.assertEqual(stock_of(ORDERED).volumes(), ORDERED)
        self.assertEqual(stock_of(ORDERED[::-1]).volumes(), ORDERED)
        self.assertEqual([Stock().put_in(volume) for volume in ORDERED], [0] * len(ORDERED))

    def test_what_is_no_volume(self):
        stock = stock_of(ORDERED)
        for thing in ODD_THINGS + ODD_NUMBERS + [list(ORDERED[0]), ORDERED[0][:3], ORDERED[0] + (1,), "abcd"]:
            self.assert_left(stock, NoVolume, {"found": thing}, stock.put_in, thing)
        for thing in ODD_THINGS + ODD_NUMBERS:
            self.assert_left(stock, NoName, {"found": thing}, stock.put_in, (thing, "a", 1, 1))
            self.assert_left(stock, NoMark, {"found": thing}, stock.put_in, ("e", thing, 1, 1))
            self.assert_left(stock, NoNumber, {"found": thing}, stock.put_in, ("e", "a", thing, 1))
            self.assert_left(stock, NoNumber, {"found": thing}, stock.put_in, ("e", "a", 1, thing))
        for number in [0, 10]:
            self.assert_left(stock, NoNumber, {"found": number}, stock.put_in, ("e", "a", number, 1))
        for number in [0, 100]:
            self.assert_left(stock, NoNumber, {"found": number}, stock.put_in, ("e", "a", 1, number))

    def test_taken(self):
        stock = stock_of(ORDERED)
        for name, _, _, _ in ORDERED:
            for mark, size, width in [("a", 1, 1), ("0", 9, 99)]:
                self.assert_left(stock, Taken, {"found": name}, stock.put_in, (name, mark, size, width))

    def test_sixty_and_one_more(self):
        stock = Stock()
        for at, volume in enumerate(sixty()):
            self.assertEqual(stock.put_in(volume), at)
        self.assertEqual((stock.many(), stock.total()), (60, 5940))
        self.assertEqual(stock.volumes(), sixty())
        self.assert_left(stock, TooMany, {"count": 61}, stock.put_in, ("z", "a", 1, 1))
        stock.drop("aa")
        self.assertEqual(stock.put_in(("z", "a", 1, 1)), 59)
        self.assert_left(stock, TooMany, {"count": 61}, stock.put_in, ("aa", "a", 1, 1))

    def test_the_order_of_refusals(self):
        stock = stock_of(sixty())
        name, mark, size, width = ["name"], ["mark"], ["size"], ["width"]
        self.assert_left(stock, NoVolume, {"found": name}, stock.put_in, name)
        self.assert_left(stock, NoName, {"found": name}, stock.put_in, (name, mark, size, width))
        self.assert_left(stock, NoMark, {"found": mark}, stock.put_in, ("aa", mark, size, width))
        self.assert_left(stock, NoNumber, {"found": size}, stock.put_in, ("aa", "a", size, width))
        self.assert_left(stock, NoNumber, {"found": width}, stock.put_in, ("aa", "a", 1, width))
        self.assert_left(stock, NoNumber, {"found": 0}, stock.put_in, ("zz", "a", 1, 0))
        self.assert_left(stock, Taken, {"found": "aa"}, stock.put_in, ("aa", "b", 2, 1))
        self.assert_left(stock, TooMany, {"count": 61}, stock.put_in, ("zz", "b", 2, 1))


class DropTest(StockCase):
    def test_the_volume_is_told(self):
        for at, volume in enumerate(ORDERED):
            stock = stock_of(ORDERED)
            self.assertEqual(stock.drop(volume[0]), volume)
            self.assertEqual(stock.volumes(), ORDERED[:at] + ORDERED[at + 1:])
            self.assert_left(stock, Unknown, {"found": volume[0]}, stock.drop, volume[0])

    def test_a_name_may_come_again(self):
        stock = stock_of(ORDERED)
        stock.drop("c")
        self.assertEqual(stock.put_in(("c", "zz", 9, 5)), 10)
        self.assertEqual(stock.volume("c"), ("c", "zz", 9, 5))
        self.assertEqual(stock.of_mark(1, "a"), [ORDERED[4], ORDERED[5]])
        self.assertEqual(stock.drop("c"), ("c", "zz", 9, 5))

    def test_unknown(self):
        stock = stock_of(ORDERED)
        self.assert_unknown(stock, stock.drop)
        self.assert_unknown(Stock(), Stock().drop)


class WidenTest(StockCase):
    def test_the_elder_width_is_told(self):
        stock = stock_of(ORDERED)
        self.assertEqual(stock.widen("z", 5), 99)
        self.assertEqual(stock.widen("z", 5), 5)
        self.assertEqual(stock.widen("z", 1), 5)
        self.assertEqual(stock.widen("z", 99), 1)
        self.assertIs(type(stock.widen("z", 3)), int)
        self.assertEqual(stock.volumes(), [("z", "0", 1, 3)] + ORDERED[1:])
        self.assertEqual(stock.total(), sum(volume[3] for volume in ORDERED) - 96)
        self.assertEqual(stock.volume("z"), ("z", "0", 1, 3))

    def test_only_the_one_of_this_name_is_widened(self):
        for at, volume in enumerate(ORDERED):
            stock = stock_of(ORDERED)
            self.assertEqual(stock.widen(volume[0], 77), volume[3])
            wider = volume[:3] + (77,)
            self.assertEqual(stock.volumes(), ORDERED[:at] + [wider] + ORDERED[at + 1:])

    def test_what_is_no_width(self):
        stock = stock_of(ORDERED)
        for thing in ODD_THINGS + ODD_NUMBERS + [0, 100, True, "5"]:
            self.assert_left(stock, NoNumber, {"found": thing}, stock.widen, "z", thing)

    def test_unknown(self):
        stock = stock_of(ORDERED)
        self.assert_unknown(stock, stock.widen, 5)
        self.assert_unknown(stock, stock.widen, 0)


class AskedTest(StockCase):
    def test_what_is_told(self):
        stock = stock_of(ORDERED[::-1])
        self.assertEqual(stock.volumes(), ORDERED)
        self.assertEqual(stock.names(), [volume[0] for volume in ORDERED])
        self.assertEqual(stock.many(), 11)
        self.assertEqual(stock.total(), 267)
        for at, volume in enumerate(ORDERED):
            self.assertEqual(stock.volume(volume[0]), volume)
            self.assertIs(type(stock.volume(volume[0])), tuple)
            self.assertEqual(stock.spot(volume[0]), at)

    def test_unknown(self):
        stock = stock_of(ORDERED)
        for call in [stock.volume, stock.spot, stock.alike]:
            self.assert_unknown(stock, call)

    def test_lists_are_new_each_time(self):
        stock = stock_of(ORDERED)
        for ask in [stock.volumes, stock.names, lambda: stock.of_mark(1, "a"), lambda: stock.of_mark(3, "a"),
                    lambda: stock.alike("c"), lambda: stock.alike("z")]:
            self.assert_new_each_time(ask)

    def test_asking_changes_nothing(self):
        stock = stock_of(ORDERED)
        self.assertEqual(all_of(stock), all_of(stock))


class OfMarkTest(StockCase):
    def test_both_are_asked_for(self):
        stock = stock_of(ORDERED[::-1])
        self.assertEqual(stock.of_mark(1, "a"), ORDERED[3:6])
        self.assertEqual(stock.of_mark(2, "a"), ORDERED[8:10])
        self.assertEqual(stock.of_mark(1, "a.0"), [ORDERED[6]])
        self.assertEqual(stock.of_mark(9, "2"), [ORDERED[10]])

    def test_none_has_them(self):
        stock = stock_of(ORDERED)
        for size, mark in [(3, "a"), (9, "a"), (1, "c"), (2, "0"), (1, "a.0.0"), (2, "a.0")]:
            self.assertEqual(stock.of_mark(size, mark), [])
        self.assertEqual(Stock().of_mark(1, "a"), [])

    def test_refused(self):
        for stock in [stock_of(ORDERED), Stock()]:
            for thing in ODD_THINGS + ODD_NUMBERS + [0, 10, True, "1"]:
                self.assert_left(stock, NoNumber, {"found": thing}, stock.of_mark, thing, "a")
                self.assert_left(stock, NoNumber, {"found": thing}, stock.of_mark, thing, "A")
            for thing in ODD_THINGS + ODD_NUMBERS + [0, 1, "a.01", "abcdefg"]:
                self.assert_left(stock, NoMark, {"found": thing}, stock.of_mark, 1, thing)
                self.assert_left(stock, NoMark, {"found": thing}, stock.of_mark, 9, thing)

    def test_alike(self):
        stock = stock_of(ORDERED[::-1])
        for volume in ORDERED:
            same = [other for other in ORDERED if other[1:3] == volume[1:3]]
            self.assertEqual(stock.alike(volume[0]), same)
            self.assertIn(volume, stock.alike(volume[0]))


class CopiedTest(StockCase):
    def test_a_copy_has_the_same_volumes(self):
        stock = stock_of(ORDERED)
        other = stock.copied()
        self.assertIs(type(other), Stock)
        self.assertIsNot(other, stock)
        self.assertEqual(all_of(other), all_of(stock))
        self.assertEqual(Stock().copied().volumes(), [])

    def test_each_goes_its_own_way(self):
        stock = stock_of(ORDERED)
        other = stock.copied()
        stock.put_in(("e", "a", 1, 1))
        stock.drop("z")
        stock.widen("y", 9)
        self.assertEqual(other.volumes(), ORDERED)
        ahead = all_of(stock)
        other.put_in(("f", "a", 1, 1))
        other.drop("x")
        other.widen("y", 8)
        self.assertEqual(all_of(stock), ahead)
        self.assertEqual(other.volume("y"), ("y", "9", 1, 8))
        self.assertEqual(other.names(), ["z", "y", "c", "ca", "d", "f", "w", "b", "a", "v", "t"])

    def test_two_stocks_have_nothing_in_common(self):
        one, other = Stock(), Stock()
        one.put_in(ORDERED[0])
        self.assertEqual(other.volumes(), [])


class ManyDeedsTest(StockCase):
    def test_the_order_holds_behind_many_deeds(self):
        for begin in range(6):
            numbers = Numbers(begin)
            stock, there = Stock(), {}
            for _ in range(250):
                name = numbers.one_of(names(70))
                if name not in there and len(there) < 60:
                    there[name] = (name, numbers.one_of(["9", "10", "a", "a.1"]), 1 + numbers.below(9), 5)
                    place = stock.put_in(there[name])
                    self.assertEqual(stock.volumes()[place], there[name])
                elif name in there and numbers.below(2):
                    self.assertEqual(stock.drop(name), there.pop(name))
                elif name in there:
                    width = 1 + numbers.below(99)
                    self.assertEqual(stock.widen(name, width), there[name][3])
                    there[name] = there[name][:3] + (width,)
                self.assertIs(are_in_order(stock.volumes()), True)
                self.assertEqual(sorted(stock.volumes()), sorted(there.values()))


if __name__ == "__main__":
    unittest.main()
