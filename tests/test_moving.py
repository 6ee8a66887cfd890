"""Points 80 to 88, moves of point 7, and what is handed in of points 4, 5 and 6."""

import itertools
import unittest

from shelvesmoved.errors import (Away, Empty, Loaded, NoCart, NoLoad, NoNumber, NotOut, Out, ShelvesError, TooWide,
                                 Unknown, Unlike)
from shelvesmoved.moving import Move
from shelvesmoved.plans import planned
from shelvesmoved.runs import Scheme
from shelvesmoved.shelves import House, house_of
from shelvesmoved.volumes import are_in_order
from tests.things import ODD_NUMBERS, ODD_THINGS, Case, Numbers, is_as_promised, names, stock_of

RUNS = [("ra", 1, None, 0, 0, None), ("rb", 1, "b", 0, 0, None), ("rc", 1, "c", 0, 0, None),
        ("rd", 2, None, 0, 0, None)]

# In order: four of the first run, two of the second one, none of the third one, three of the fourth one.
VOLUMES = [("aa", "a", 1, 4), ("ab", "a", 1, 4), ("ac", "a", 1, 4), ("ad", "a.1", 1, 9), ("ba", "b", 1, 2),
           ("bb", "b.9", 1, 2), ("da", "a", 2, 1), ("db", "b", 2, 9), ("dc", "c", 2, 1)]

OLD = [("one", 9, 21), ("two", 9, 4), ("three", 9, 20)]
OLD_ROWS = [VOLUMES[:4], VOLUMES[4:6], VOLUMES[6:]]

SHELVES = [("na", 1, 10), ("nb", 1, 20), ("nc", 2, 5), ("nd", 2, 10), ("ne", 2, 10)]

LOADS = [["aa", "ab"], ["ac"], ["ad"], ["ba", "bb"], ["da"], ["db"], ["dc"]]


def standing(carts=2, capacity=9):
    """A move of the nine volumes."""
    return Move(house_of(OLD, OLD_ROWS), the_plan(), capacity, carts)


def the_plan():
    return planned(Scheme(RUNS), stock_of(VOLUMES), SHELVES, 0)


def all_of(move):
    """All that a move tells of itself."""
    carts = range(1, move.carts() + 1)
    told = [name for load in move.loads() for name in load]
    return [move.old_house().rows(), move.old_house().shelves(), move.new_house().rows(), move.new_house().shelves(),
            [move.on_cart(cart) for cart in carts], [move.cart_at(cart) for cart in carts],
            [move.load_of(cart) for cart in carts], move.carts(), move.out(), move.loads(), move.left(), move.ended(),
            move.journal(), [move.where(name) for name in told]]


def places_of(move, name):
    """All places at which a volume is."""
    found = []
    for word, house in [("old", move.old_house()), ("new", move.new_house())]:
        for (shelf, _, _), row in zip(house.shelves(), house.rows()):
            found.extend((word, shelf, place) for place, volume in enumerate(row) if volume[0] == name)
    for cart in range(1, move.carts() + 1):
        found.extend(("cart", cart, place) for place, volume in enumerate(move.on_cart(cart)) if volume[0] == name)
    return found + [("out",) for volume in move.out() if volume[0] == name]


class MoveCase(Case):
    def assert_left(self, move, kind, fields, call, *arguments):
        """The deed is refused, and all that is told is as it was."""
        ahead = all_of(move)
        self.assert_refused(kind, fields, call, *arguments)
        self.assertEqual(all_of(move), ahead)

    def assert_as_promised(self, move, plan, capacity):
        """What 87 promises of each moment."""
        for volume in plan.volumes():
            self.assertEqual(places_of(move, volume[0]), [move.where(volume[0])])
        held = move.old_house().volumes() + move.new_house().volumes() + move.out()
        for cart in range(1, move.carts() + 1):
            row = move.on_cart(cart)
            self.assertTrue(are_in_order(row))
            self.assertLessEqual(sum(volume[3] for volume in row), capacity)
            held.extend(row)
        self.assertEqual(sorted(held), sorted(plan.volumes()))
        self.assertTrue(are_in_order(move.out()))
        self.assertTrue(is_as_promised(move.old_house()))
        self.assertTrue(is_as_promised(move.new_house()))


class MadeTest(MoveCase):
    def test_at_first(self):
        move = standing(3)
        where = [("old", "one", 0), ("old", "one", 1), ("old", "one", 2), ("old", "one", 3), ("old", "two", 0),
                 ("old", "two", 1), ("old", "three", 0), ("old", "three", 1), ("old", "three", 2)]
        self.assertEqual(all_of(move), [
            OLD_ROWS, OLD, [[]] * 5, SHELVES, [[]] * 3, ["old"] * 3, [None] * 3, 3, [], LOADS, 7, False, [], where])

    def test_a_move_of_none(self):
        move = Move(House([]), planned(Scheme([]), stock_of([]), [], 0), 1, 1)
        self.assertEqual(all_of(move), [[], [], [], [], [[]], ["old"], [None], 1, [], [], 0, True, [], []])
        self.assert_left(move, NoLoad, {}, move.load, 1)
        self.assertEqual(move.drive(1), "new")
        self.assert_left(move, Empty, {"cart": 1}, move.unload, 1)
        self.assertIs(move.ended(), True)

    def test_loads_by_the_capacity_run_by_run(self):
        for capacity, told in [
                (9, LOADS), (10, [["aa", "ab"], ["ac"], ["ad"], ["ba", "bb"], ["da", "db"], ["dc"]]),
                (11, [["aa", "ab"], ["ac"], ["ad"], ["ba", "bb"], ["da", "db", "dc"]]),
                (12, [["aa", "ab", "ac"], ["ad"], ["ba", "bb"], ["da", "db", "dc"]]),
                (20, [["aa", "ab", "ac"], ["ad"], ["ba", "bb"], ["da", "db", "dc"]]),
                (21, [["aa", "ab", "ac", "ad"], ["ba", "bb"], ["da", "db", "dc"]]),
                (999, [["aa", "ab", "ac", "ad"], ["ba", "bb"], ["da", "db", "dc"]])]:
            move = standing(1, capacity)
            self.assertEqual(move.loads(), told)
            self.assertEqual(move.left(), len(told))
            for number, load in enumerate(told):
                self.assertEqual(move.load(1), load)
                self.assertEqual((move.load_of(1), move.left()), (number, len(told) - number - 1))
                move.drive(1)
                self.assertEqual(move.unload(1), load)
                move.drive(1)
            self.assertIs(move.ended(), True)

    def test_unlike(self):
        plan = the_plan()
        for at, volume in enumerate(VOLUMES):
            # One of the plan that doesn't stand in the old house.
            self.assert_found(Unlike, volume[0], Move, house_with(VOLUMES[:at] + VOLUMES[at + 1:]), plan, 9, 1)
            # One of the old house that isn't a volume of the plan, as it has another width.
            other = volume[:3] + (volume[3] + 1,)
            house = house_with(VOLUMES[:at] + [other] + VOLUMES[at + 1:])
            self.assert_found(Unlike, volume[0], Move, house, plan, None, None)
        for more in [("a", "a", 1, 1), ("zz", "z", 9, 99), ("bab", "b", 1, 5)]:
            self.assert_found(Unlike, more[0], Move, house_with(VOLUMES + [more]), plan, 0, 0)
        self.assert_found(Unlike, "aa", Move, House([]), plan, 9, 1)
        self.assert_found(Unlike, "aa", Move, house_with(VOLUMES), planned(Scheme([]), stock_of([]), [], 0), 9, 1)

    def test_the_first_of_both_houses_together(self):
        plan = the_plan()
        # ad is missing there, ae and ca are too many: the first one in order is told.
        rest = [volume for volume in VOLUMES if volume[0] != "ad"]
        for more, told in [(("ae", "a", 1, 1), "ae"), (("ae", "a.1", 1, 1), "ad"), (("ac", "a.1", 1, 1), "ac"),
                           (("ca", "c", 1, 1), "ad"), (("z", "9", 1, 1), "z")]:
            some = [volume for volume in rest if volume[0] != more[0]]
            self.assert_found(Unlike, told, Move, house_with(some + [more]), plan, 9, 1)

    def test_two_of_one_name(self):
        plan = the_plan()
        others = [volume for volume in VOLUMES if volume[0] not in ("ba", "ab")]
        # Both ab and ba are unlike; ba of the old house stands ahead of all, or behind ab.
        self.assert_found(Unlike, "ba", Move, house_with(others + [("ba", "0", 1, 2), ("ab", "z", 1, 4)]), plan, 9, 1)
        self.assert_found(Unlike, "ab", Move, house_with(others + [("ba", "z", 9, 2), ("ab", "z", 1, 4)]), plan, 9, 1)
        self.assert_found(Unlike, "ba", Move, house_with(others + [("ba", "z", 9, 2), ("ab", "a", 1, 4)]), plan, 9, 1)
        self.assert_found(Unlike, "ab", Move, house_with(others + [("ba", "b", 1, 2), ("ab", "a", 1, 5)]), plan, 9, 1)

    def test_no_capacity(self):
        for thing in ODD_THINGS + ODD_NUMBERS + [0, 1000, "9", (9,), True, False]:
            self.assert_found(NoNumber, thing, Move, house_with(VOLUMES), the_plan(), thing, 1)
            self.assert_found(NoNumber, thing, Move, house_with(VOLUMES), the_plan(), thing, None)
            self.assert_found(NoNumber, thing, Move, House([]), planned(Scheme([]), stock_of([]), [], 0), thing, 0)

    def test_too_wide(self):
        for capacity, told in [(1, 4), (3, 4), (4, 9), (8, 9)]:
            for carts in [1, 0, None]:
                self.assert_found(TooWide, told, Move, house_with(VOLUMES), the_plan(), capacity, carts)
        self.assertEqual(standing(1, 9).carts(), 1)

    def test_no_number_of_carts(self):
        for thing in ODD_THINGS + ODD_NUMBERS + [0, 10, "1", (1,), True, False]:
            self.assert_found(NoNumber, thing, Move, house_with(VOLUMES), the_plan(), 9, thing)
        for carts in range(1, 10):
            self.assertEqual(standing(carts).carts(), carts)

    def test_capacity_at_the_bounds(self):
        stock = stock_of([("a", "a", 1, 1), ("b", "b", 1, 1)])
        plan = planned(Scheme(RUNS[:1]), stock, [("sa", 1, 9)], 0)
        house = house_of([("sa", 1, 9)], [stock.volumes()])
        self.assertEqual(Move(house, plan, 1, 9).loads(), [["a"], ["b"]])
        self.assertEqual(Move(house, plan, 999, 9).loads(), [["a", "b"]])

    def test_the_order_of_refusals(self):
        plan, few, all_there = the_plan(), house_with(VOLUMES[1:]), house_with(VOLUMES)
        self.assert_found(Unlike, "aa", Move, few, plan, "capacity", "carts")
        self.assert_found(NoNumber, "capacity", Move, all_there, plan, "capacity", "carts")
        self.assert_found(TooWide, 4, Move, all_there, plan, 2, "carts")
        self.assert_found(NoNumber, "carts", Move, all_there, plan, 9, "carts")

    def test_neither_the_house_nor_the_plan_is_changed(self):
        house, plan = house_with(VOLUMES), the_plan()
        ahead = (house.rows(), house.shelves(), plan.rows(), plan.told())
        move = Move(house, plan, 9, 1)
        run_to_the_end(move)
        self.assertEqual((house.rows(), house.shelves(), plan.rows(), plan.told()), ahead)

    def test_the_old_house_changed_behind(self):
        house, plan = house_with(VOLUMES), the_plan()
        move = Move(house, plan, 9, 1)
        ahead = all_of(move)
        house.take("aa")
        house.take("dc")
        house.stand("sa", ("x", "0", 1, 1))
        self.assertEqual(all_of(move), ahead)
        move.ask("aa")
        self.assertEqual(move.back("aa"), ("old", "sa", 0))
        self.assertEqual(all_of(move)[:5], ahead[:5])

    def test_two_moves_have_nothing_in_common(self):
        house, plan = house_with(VOLUMES), the_plan()
        move, other = Move(house, plan, 9, 2), Move(house, plan, 9, 2)
        ahead = all_of(other)
        move.load(1)
        move.ask("dc")
        move.drive(1)
        self.assertEqual(all_of(other), ahead)


def house_with(volumes):
    """An old house of one long shelf, on which these volumes stand."""
    return house_of([("sa", 9, 999)], [volumes])


def run_to_the_end(move, cart=1):
    """Moves all that waits, by one cart that is empty at the old house."""
    while move.left() > 0:
        move.load(cart)
        move.drive(cart)
        move.unload(cart)
        move.drive(cart)


class DeedsTest(MoveCase):
    def test_load(self):
        move = standing()
        self.assertEqual(move.load(2), ["aa", "ab"])
        self.assertEqual(move.on_cart(2), VOLUMES[:2])
        self.assertEqual([move.load_of(1), move.load_of(2), move.left()], [None, 0, 6])
        self.assertEqual(move.load(1), ["ac"])
        self.assertEqual([move.load_of(1), move.load_of(2), move.left()], [1, 0, 5])
        self.assertEqual(move.old_house().rows(), [[VOLUMES[3]], VOLUMES[4:6], VOLUMES[6:]])
        self.assertEqual(move.new_house().rows(), [[]] * 5)
        self.assertEqual([move.where(name) for name in ["aa", "ab", "ac", "ad"]],
                         [("cart", 2, 0), ("cart", 2, 1), ("cart", 1, 0), ("old", "one", 0)])

    def test_drive(self):
        move = standing()
        self.assertEqual([move.cart_at(1), move.cart_at(2)], ["old", "old"])
        self.assertEqual(move.drive(2), "new")
        self.assertEqual([move.cart_at(1), move.cart_at(2)], ["old", "new"])
        self.assertEqual([move.drive(1), move.drive(2)], ["new", "old"])
        self.assertEqual([move.cart_at(1), move.cart_at(2)], ["new", "old"])
        # A cart drives with its load, too, and back again.
        move.load(2)
        self.assertEqual([move.drive(2), move.drive(2), move.drive(2)], ["new", "old", "new"])
        self.assertEqual(move.unload(2), ["aa", "ab"])

    def test_unload(self):
        move = standing()
        move.load(1)
        move.drive(1)
        self.assertEqual(move.unload(1), ["aa", "ab"])
        self.assertEqual(move.new_house().rows(), [VOLUMES[:2], [], [], [], []])
        self.assertEqual([move.on_cart(1), move.load_of(1), move.cart_at(1)], [[], None, "new"])
        self.assertEqual([move.where("aa"), move.where("ab")], [("new", "na", 0), ("new", "na", 1)])

    def test_carts_that_are_none(self):
        move = standing(2)
        for thing in ODD_THINGS + ODD_NUMBERS + [0, 3, 9, "1", (1,), [1], {1: 1}, move]:
            for call in [move.load, move.drive, move.unload, move.on_cart, move.cart_at, move.load_of]:
                self.assert_left(move, NoCart, {"found": thing}, call, thing)
        run_to_the_end(move)
        for call in [move.load, move.drive, move.unload, move.on_cart, move.cart_at, move.load_of]:
            self.assert_left(move, NoCart, {"found": 3}, call, 3)
        nine = standing(9)
        self.assertEqual(nine.drive(9), "new")
        self.assert_left(nine, NoCart, {"found": 10}, nine.drive, 10)

    def test_away(self):
        move = standing()
        self.assert_left(move, Away, {"cart": 1}, move.unload, 1)
        move.load(1)
        self.assert_left(move, Away, {"cart": 1}, move.unload, 1)
        move.drive(1)
        self.assert_left(move, Away, {"cart": 1}, move.load, 1)
        move.unload(1)
        self.assert_left(move, Away, {"cart": 1}, move.load, 1)

    def test_loaded_and_empty(self):
        move = standing()
        move.load(1)
        self.assert_left(move, Loaded, {"cart": 1}, move.load, 1)
        move.drive(1)
        move.unload(1)
        self.assert_left(move, Empty, {"cart": 1}, move.unload, 1)
        move.drive(2)
        self.assert_left(move, Empty, {"cart": 2}, move.unload, 2)

    def test_no_load(self):
        move = standing()
        run_to_the_end(move)
        self.assert_left(move, NoLoad, {}, move.load, 1)
        self.assert_left(move, NoLoad, {}, move.load, 2)

    def test_the_order_of_refusals(self):
        move = standing(2)
        for _ in range(6):
            move.load(1)
            move.drive(1)
            move.unload(1)
            move.drive(1)
        move.load(1)
        # A load is on it, and none waits; then it is away besides.
        self.assert_left(move, Loaded, {"cart": 1}, move.load, 1)
        move.drive(1)
        self.assert_left(move, Away, {"cart": 1}, move.load, 1)
        move.unload(1)
        self.assert_left(move, Away, {"cart": 1}, move.load, 1)
        self.assert_left(move, NoLoad, {}, move.load, 2)
        # It is at the old house, and no load is on it.
        self.assert_left(move, Away, {"cart": 2}, move.unload, 2)

    def test_carts_in_any_order(self):
        plan = the_plan()
        for turned in itertools.permutations(range(1, 5)):
            for unloaded in itertools.permutations(range(1, 5)):
                move = standing(4)
                for carts, deed in [(turned, move.load), (range(1, 5), move.drive), (unloaded, move.unload),
                                    (turned, move.drive), (range(1, 4), move.load), (range(1, 5), move.drive),
                                    ([cart for cart in unloaded if cart < 4], move.unload)]:
                    for cart in carts:
                        deed(cart)
                    self.assertTrue(are_in_order(move.new_house().volumes()))
                self.assertIs(move.ended(), True)
                self.assertEqual(move.new_house().rows(), plan.house().rows())
                self.assertEqual(move.old_house().rows(), [[], [], []])


class AskTest(MoveCase):
    def test_where_the_load_waits(self):
        move = standing()
        for name, found in [("ab", ("old", "one", 1)), ("ac", ("old", "one", 1)), ("dc", ("old", "three", 2))]:
            self.assertEqual(move.ask(name), found)
            self.assertEqual(move.where(name), ("out",))
        self.assertEqual(move.out(), [VOLUMES[1], VOLUMES[2], VOLUMES[8]])
        self.assertEqual(move.old_house().rows(), [[VOLUMES[0], VOLUMES[3]], VOLUMES[4:6], VOLUMES[6:8]])
        self.assertEqual(move.back("ac"), ("old", "one", 1))
        self.assertEqual(move.back("ab"), ("old", "one", 1))
        self.assertEqual(move.where("ac"), ("old", "one", 2))
        self.assertEqual(move.back("dc"), ("old", "three", 2))
        self.assertEqual(move.old_house().rows(), OLD_ROWS)
        self.assertEqual(move.out(), [])

    def test_where_the_load_is_on_a_cart(self):
        move = standing(2)
        move.load(2)
        for turned in [["aa", "ab"], ["ab", "aa"]]:
            self.assertEqual(move.ask("aa"), ("cart", 2, 0))
            self.assertEqual(move.ask("ab"), ("cart", 2, 0))
            self.assertEqual(move.on_cart(2), [])
            self.assertEqual(move.load_of(2), 0)
            for name in turned:
                self.assertEqual(move.back(name)[:2], ("cart", 2))
            self.assertEqual(move.on_cart(2), VOLUMES[:2])
            self.assertEqual([move.where("aa"), move.where("ab")], [("cart", 2, 0), ("cart", 2, 1)])
        self.assertEqual(move.ask("ab"), ("cart", 2, 1))
        move.drive(2)
        self.assertEqual(move.back("ab"), ("cart", 2, 1))

    def test_where_the_load_is_done(self):
        move = standing()
        move.load(1)
        move.drive(1)
        move.unload(1)
        self.assertEqual(move.ask("aa"), ("new", "na", 0))
        self.assertEqual(move.where("ab"), ("new", "na", 0))
        self.assertEqual(move.new_house().rows(), [[VOLUMES[1]], [], [], [], []])
        self.assertEqual(move.back("aa"), ("new", "na", 0))
        self.assertEqual(move.where("ab"), ("new", "na", 1))

    def test_it_is_given_back_where_its_load_is_by_then(self):
        # Asked for at each moment, given back at each later one.
        deeds = ["load", "drive", "unload"]
        places = [("old", "one", 1), ("cart", 1, 1), ("cart", 1, 1), ("new", "na", 1)]
        for asked in range(4):
            for given in range(asked, 4):
                move = standing(1)
                for number in range(5):
                    if number == asked:
                        self.assertEqual(move.ask("ab"), places[asked])
                    if number == given:
                        self.assertEqual(move.back("ab"), places[given])
                        self.assertEqual(move.where("ab"), places[given])
                    if number < 3:
                        told = getattr(move, deeds[number])(1)
                        out = asked <= number < given
                        if number in (0, 2):
                            self.assertEqual(told, ["aa"] if out else ["aa", "ab"])
                self.assertEqual(move.new_house().row("na"), VOLUMES[:2])

    def test_a_load_all_of_whose_volumes_are_out(self):
        move = standing()
        move.ask("ab")
        move.ask("aa")
        self.assertEqual(move.load(1), [])
        self.assertEqual([move.load_of(1), move.on_cart(1), move.left()], [0, [], 6])
        self.assert_left(move, Loaded, {"cart": 1}, move.load, 1)
        move.drive(1)
        self.assertEqual(move.back("ab"), ("cart", 1, 0))
        self.assertEqual(move.ask("ab"), ("cart", 1, 0))
        self.assertEqual(move.unload(1), [])
        self.assert_left(move, Empty, {"cart": 1}, move.unload, 1)
        self.assertEqual(move.back("ab"), ("new", "na", 0))
        self.assertEqual(move.back("aa"), ("new", "na", 0))
        self.assertEqual(move.new_house().row("na"), VOLUMES[:2])

    def test_unknown(self):
        move = standing()
        move.ask("ab")
        others = ["a", "zz", "AA", "one", "na", "ra", "aaa", 0, 1, ("aa",), ["aa"], {"aa": 1}, VOLUMES[0], move]
        for thing in ODD_THINGS + ODD_NUMBERS + others:
            for call in [move.ask, move.back, move.where]:
                self.assert_left(move, Unknown, {"found": thing}, call, thing)

    def test_out_and_not_out(self):
        move = standing(1)
        for _ in range(4):
            for name in names_in(move):
                self.assert_left(move, NotOut, {"found": name}, move.back, name)
            for name in names_in(move):
                move.ask(name)
                self.assert_left(move, Out, {"found": name}, move.ask, name)
            for name in names_in(move)[::-1]:
                move.back(name)
                self.assert_left(move, NotOut, {"found": name}, move.back, name)
            move.load(1)
            for name in names_in(move):
                self.assert_left(move, NotOut, {"found": name}, move.back, name)
            move.drive(1)
            move.unload(1)
            move.drive(1)

    def test_a_refusal_has_the_very_name(self):
        move = standing()
        name = "".join(["a", "a"])
        self.assert_left(move, NotOut, {"found": name}, move.back, name)
        move.ask("aa")
        self.assert_left(move, Out, {"found": name}, move.ask, name)

    def test_it_has_not_ended_while_one_is_out(self):
        move = standing()
        move.ask("dc")
        run_to_the_end(move)
        self.assertEqual([move.left(), move.load_of(1), move.ended()], [0, None, False])
        move.back("dc")
        self.assertIs(move.ended(), True)
        move.ask("aa")
        self.assertIs(move.ended(), False)
        move.back("aa")
        self.assertEqual(move.new_house().rows(), the_plan().house().rows())


def names_in(move):
    return [name for load in move.loads() for name in load]


class ToldTest(MoveCase):
    def some_way_on(self):
        """A move with volumes at each kind of place."""
        move = standing(3)
        for cart in [1, 2, 3]:
            move.load(cart)
            move.drive(cart)
        move.unload(1)
        for name in ["ab", "ad", "db"]:
            move.ask(name)
        return move

    def test_ended(self):
        move = standing(2)
        while move.left() > 0:
            self.assertIs(move.ended(), False)
            move.load(2)
            self.assertIs(move.ended(), False)
            move.drive(2)
            self.assertIs(move.ended(), False)
            move.unload(2)
            self.assertIs(move.ended(), move.left() == 0)
            move.drive(2)
        self.assertIs(move.ended(), True)
        self.assertEqual([move.cart_at(1), move.cart_at(2)], ["old", "old"])

    def test_a_load_on_a_cart_alone_keeps_it_from_ending(self):
        move = standing(1, 999)
        for name in ["da", "db", "dc"]:
            move.ask(name)
        run_to_the_end_but_one(move)
        self.assertEqual([move.left(), move.on_cart(1), move.load_of(1)], [0, [], 2])
        self.assertIs(move.ended(), False)
        move.drive(1)
        move.unload(1)
        for name in ["dc", "da", "db"]:
            self.assertIs(move.ended(), False)
            move.back(name)
        self.assertIs(move.ended(), True)

    def test_lists_are_new_each_time(self):
        move = self.some_way_on()
        for ask in [move.loads, move.out, move.journal, lambda: move.on_cart(2), lambda: move.on_cart(1)]:
            self.assert_new_each_time(ask)
        ahead = all_of(move)
        for load in move.loads():
            load.append("more")
        self.assertEqual(all_of(move), ahead)
        again = standing()
        told = again.load(1)
        told.append("more")
        self.assertEqual(again.journal(), [("load", 1, ["aa", "ab"])])
        again.drive(1)
        told = again.unload(1)
        told.clear()
        self.assertEqual(again.journal()[-1], ("unload", 1, ["aa", "ab"]))
        self.assertEqual(again.loads(), LOADS)

    def test_houses_told_are_changed_behind(self):
        move = self.some_way_on()
        ahead = all_of(move)
        self.assertIs(type(move.old_house()), House)
        self.assertIs(type(move.new_house()), House)
        move.old_house().take("ba")
        move.new_house().take("aa")
        old, new = move.old_house(), move.new_house()
        old.take("ba")
        old.stand("three", ("zz", "z", 9, 1))
        new.stand("ne", ("zz", "z", 2, 1))
        self.assertEqual(all_of(move), ahead)
        self.assertEqual(move.where("ba"), ("old", "two", 0))

    def test_the_journal(self):
        move = standing(2)
        self.assertEqual(move.journal(), [])
        move.ask("ab")
        move.load(2)
        with self.assertRaises(ShelvesError):
            move.load(2)
        move.drive(2)
        move.back("ab")
        move.unload(2)
        with self.assertRaises(ShelvesError):
            move.ask("zz")
        move.drive(2)
        move.ask("aa")
        move.ask("ac")
        move.load(1)
        with self.assertRaises(ShelvesError):
            move.unload(1)
        told = move.journal()
        self.assertEqual(told, [("ask", "ab"), ("load", 2, ["aa"]), ("drive", 2, "new"), ("back", "ab"),
                                ("unload", 2, ["aa", "ab"]), ("drive", 2, "old"), ("ask", "aa"), ("ask", "ac"),
                                ("load", 1, [])])
        self.assertEqual({type(deed) for deed in told}, {tuple})
        for deed in told:
            if len(deed) == 3 and isinstance(deed[2], list):
                deed[2].append("more")
        self.assertEqual(move.journal()[1], ("load", 2, ["aa"]))
        self.assertEqual(move.journal()[-1], ("load", 1, []))

    def test_the_journal_done_again(self):
        for begin in range(5):
            move = standing(3)
            at_random(move, Numbers(begin), 60)
            again = standing(3)
            for word, *things in move.journal():
                told = getattr(again, word)(things[0])
                if len(things) > 1:
                    self.assertEqual(told, things[1])
            self.assertEqual(all_of(again), all_of(move))

    def test_asked_again_with_nothing_done_between(self):
        move = self.some_way_on()
        self.assertEqual(all_of(move), all_of(move))


def run_to_the_end_but_one(move):
    """Moves all that waits, but leaves the last load on the cart."""
    while move.left() > 1:
        move.load(1)
        move.drive(1)
        move.unload(1)
        move.drive(1)
    move.load(1)


class CopiedTest(MoveCase):
    def test_a_copy_stands_alike(self):
        for begin in range(6):
            move = standing(3)
            at_random(move, Numbers(begin), 25)
            other = move.copied()
            self.assertIs(type(other), Move)
            self.assertIsNot(other, move)
            self.assertEqual(all_of(other), all_of(move))

    def test_each_goes_its_own_way(self):
        for begin in range(6):
            move = standing(3)
            at_random(move, Numbers(begin), 25)
            other = move.copied()
            ahead = all_of(other)
            at_random(move, Numbers(begin + 50), 40)
            self.assertEqual(all_of(other), ahead)
            behind = all_of(move)
            at_random(other, Numbers(begin + 90), 40)
            self.assertEqual(all_of(move), behind)
            self.assertNotEqual(all_of(other), behind)

    def test_a_copy_goes_to_the_end(self):
        move = standing(1)
        move.ask("ab")
        move.load(1)
        other = move.copied()
        for one in [move, other]:
            self.assertEqual(one.back("ab"), ("cart", 1, 1))
            one.drive(1)
            one.unload(1)
            one.drive(1)
            run_to_the_end(one)
            self.assertIs(one.ended(), True)
            self.assertEqual(one.new_house().rows(), the_plan().house().rows())

    def test_a_copy_of_a_copy(self):
        move = standing(2)
        move.load(1)
        other = move.copied().copied()
        move.drive(1)
        move.ask("aa")
        self.assertEqual(other.where("aa"), ("cart", 1, 0))
        other.ask("aa")
        self.assertEqual(other.back("aa"), ("cart", 1, 0))
        self.assertEqual(other.journal(), [("load", 1, ["aa", "ab"]), ("ask", "aa"), ("back", "aa")])


def at_random(move, numbers, many):
    """So many deeds, some of them refused; tells how many were."""
    refused = 0
    for _ in range(many):
        word = numbers.one_of(["load", "drive", "unload", "ask", "back", "drive", "unload", "back"])
        thing = numbers.one_of(names_in(move)) if word in ("ask", "back") else 1 + numbers.below(move.carts())
        try:
            getattr(move, word)(thing)
        except ShelvesError:
            refused += 1
    return refused


class ManyDeedsTest(MoveCase):
    def test_each_volume_is_at_one_place_behind_each_deed(self):
        for begin in range(4):
            move, plan, numbers, refused = standing(1 + 2 * (begin % 2)), the_plan(), Numbers(begin), 0
            for _ in range(120):
                ahead = all_of(move)
                if at_random(move, numbers, 1):
                    self.assertEqual(all_of(move), ahead)
                    refused += 1
                else:
                    self.assertEqual(len(move.journal()), len(ahead[12]) + 1)
                self.assert_as_promised(move, plan, 9)
            self.assertGreater(refused, 10)
            self.finish(move, plan)

    def finish(self, move, plan):
        """Brings a move to its end, however it stands."""
        for name in [volume[0] for volume in move.out()]:
            move.back(name)
        for cart in range(1, move.carts() + 1):
            if move.load_of(cart) is not None:
                if move.cart_at(cart) == "old":
                    move.drive(cart)
                move.unload(cart)
        if move.cart_at(1) == "new":
            move.drive(1)
        run_to_the_end(move)
        self.assertIs(move.ended(), True)
        self.assertEqual(move.new_house().rows(), plan.house().rows())
        self.assertEqual(move.old_house().volumes(), [])

    def test_sixty_volumes(self):
        some = [(name, "a", 1 + place // 30, 1 + place % 9) for place, name in enumerate(names(60))]
        scheme = Scheme([("ra", 1, None, 3, 2, None), ("rb", 2, None, 3, 2, None)])
        for even in [False, True]:
            plan = planned(scheme, stock_of(some), [("s" + name, 2, 40) for name in names(20)], 5, even)
            old = house_of([("o" + name, 2, 99) for name in names(6)], [some[at:at + 10] for at in range(0, 60, 10)])
            move = Move(old, plan, 20, 9)
            at_random(move, Numbers(7), 250)
            self.assert_as_promised(move, plan, 20)
            self.finish(move, plan)
            self.assertEqual(move.new_house().rows(), [row for _, row in plan.rows()])


if __name__ == "__main__":
    unittest.main()
