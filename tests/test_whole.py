"""Points 1 to 7 over the whole program: one case by its things, by a text and by a desk's lines."""

import unittest

from shelvesmoved.carts import fewest_carts, loads, shows_carts, shows_loads
from shelvesmoved.casetext import read_case, read_house, show_case, show_house
from shelvesmoved.desk import Desk
from shelvesmoved.errors import Crossed, Lost, NoRoom, ShelvesError, Unknown
from shelvesmoved.looks import most_sought, sought
from shelvesmoved.moving import Move
from shelvesmoved.plans import most_years, planned
from shelvesmoved.runs import Scheme
from shelvesmoved.shelves import House
from shelvesmoved.stock import Stock
from shelvesmoved.widening import shows_widened, widened
from tests.things import Case, Numbers, is_as_promised, names, stock_of

MARKS = ["9", "10", "a", "a.1", "a.b", "b", "c.9", "c.10", "d", "qa.76.b.3"]


def some_case(begin):
    """Shelves, runs, volumes, rows of an old house, years, a capacity: small ones, of many kinds."""
    numbers = Numbers(begin)
    shelves = [("n" + name, 1 + numbers.below(3), 20 + numbers.below(60)) for name in names(4 + numbers.below(12))]
    runs = []
    # Mostly all volumes belong to a run, as there is one for each size that begins with none.
    if numbers.below(4) > 0:
        runs = [("rx", 1, None, numbers.below(5), 0, None), ("ry", 2, None, 0, numbers.below(9), None)]
    for name in names(1 + numbers.below(3)):
        run = ("r" + name, 1 + numbers.below(2), numbers.one_of([None] + MARKS), numbers.below(5), numbers.below(9),
               numbers.one_of([None] * 6 + [shelves[-3][0]]))
        if run[1:3] not in [other[1:3] for other in runs]:
            runs.append(run)
    volumes = [(name, numbers.one_of(MARKS), 1 + numbers.below(2), 1 + numbers.below(20))
               for name in names(numbers.below(25))]
    return shelves, runs, volumes, numbers.below(6), 20 + numbers.below(30)


def old_house_of(volumes):
    """A house in which the volumes stand as they come, five on a shelf."""
    house = House([("o" + name, 9, 100) for name in names(6)])
    for place, volume in enumerate(stock_of(volumes).volumes()):
        house.stand(house.shelves()[place // 5][0], volume)
    return house


def word_of(thing):
    return "-" if thing is None else str(thing)


def lines_of(shelves, runs, volumes, house):
    """The lines by which a desk is told a case and an old house."""
    lines = []
    for word, things in [("shelf", shelves), ("run", runs), ("volume", volumes), ("old", house.shelves())]:
        lines.extend(" ".join([word] + [word_of(thing) for thing in row]) for row in things)
    for (shelf, _, _), row in zip(house.shelves(), house.rows()):
        lines.extend(f"stand {shelf} {volume[0]}" for volume in row)
    return lines


def told_in_words(plan):
    """What a desk tells of a plan."""
    runs = []
    for name, shelves, gap, fills in plan.told():
        runs.append(" ".join([name, str(gap), "never" if fills is None else str(fills)] + shelves))
    return " / ".join(runs) or "none"


def planned_or_refused(*arguments):
    try:
        return planned(*arguments)
    except (Lost, Unknown, Crossed, NoRoom) as error:
        return type(error)


class WholeTest(Case):
    def test_the_same_plan_however_the_case_is_told(self):
        done = {True: 0, False: 0}
        for begin in range(150):
            shelves, runs, volumes, years, _ = some_case(begin)
            scheme, stock, house = Scheme(runs), stock_of(volumes), old_house_of(volumes)
            desk = Desk()
            self.assertNotIn("refused", desk.run_lines(lines_of(shelves, runs, volumes, house)))
            text = show_case(shelves, scheme, stock)
            self.assertEqual(desk.say("text"), text.replace("\n", " / ") or "none")
            self.assertEqual(desk.say("house"), show_house(house).replace("\n", " / "))
            self.assertEqual(read_house(show_house(house)).rows(), house.rows())
            other_shelves, other_scheme, other_stock = read_case(text)
            for even in [False, True]:
                plan = planned_or_refused(scheme, stock, shelves, years, even)
                other = planned_or_refused(other_scheme, other_stock, other_shelves, years, even)
                answer = desk.run_lines([("even " if even else "plan ") + str(years)])[0]
                done[isinstance(plan, type)] += 1
                if isinstance(plan, type):
                    self.assertEqual((other, answer), (plan, "refused"))
                    continue
                self.assertEqual((plan.told(), plan.rows()), (other.told(), other.rows()))
                self.assertEqual((answer, desk.say("told")), (str(plan.used()), told_in_words(plan)))
                for name, row in plan.rows():
                    self.assertEqual(desk.say("row " + name), " ".join(volume[0] for volume in row) or "none")
        self.assertGreater(min(done.values()), 40, done)

    def test_moved_to_its_end_by_one_cart(self):
        done = 0
        for begin in range(150):
            shelves, runs, volumes, years, capacity = some_case(begin)
            house = old_house_of(volumes)
            plan = planned_or_refused(Scheme(runs), stock_of(volumes), shelves, years, begin % 2 == 1)
            if isinstance(plan, type):
                continue
            done += 1
            move = Move(house, plan, capacity, 1)
            desk = Desk()
            desk.run_lines(lines_of(shelves, runs, volumes, house))
            desk.say(("even " if begin % 2 == 1 else "plan ") + str(years))
            self.assertEqual(desk.say(f"move {capacity} 1"), str(move.left()))
            while not move.ended():
                names_told = move.load(1)
                self.assertEqual(desk.say("load 1"), " ".join(names_told))
                self.assertEqual(desk.say("drive 1"), move.drive(1))
                self.assertEqual(move.unload(1), names_told)
                self.assertEqual(desk.say("unload 1"), " ".join(names_told))
                self.assertEqual(desk.say("drive 1"), move.drive(1))
                self.assertIs(is_as_promised(move.old_house()), True)
                self.assertIs(is_as_promised(move.new_house()), True)
            self.assertEqual(desk.say("ended"), "yes")
            self.assertEqual(move.new_house().rows(), plan.house().rows())
            for name, row in plan.rows():
                for place, volume in enumerate(row):
                    self.assertEqual(move.where(volume[0]), ("new", name, place))
                    self.assertEqual(desk.say("where " + volume[0]), f"new {name} {place}")
                    looks, where = sought(move, volume[2], volume[1], volume[0])
                    self.assertEqual(where, ("new", name, place))
                    self.assertLessEqual(sum(len(places) for _, places in looks), most_sought(move))
        self.assertGreater(done, 30)

    def test_loads_and_carts_of_a_plan(self):
        done = 0
        for begin in range(150):
            shelves, runs, volumes, years, capacity = some_case(begin)
            plan = planned_or_refused(Scheme(runs), stock_of(volumes), shelves, years)
            if isinstance(plan, type):
                continue
            groups = [[volume[3] for volume in plan.volumes_of(run[0])] for run in plan.runs()]
            ends = loads(groups, capacity)
            self.assertIs(shows_loads(groups, capacity, ends), True)
            move = Move(old_house_of(volumes), plan, capacity, 2)
            self.assertEqual(sum(len(some) for some in ends), move.left())
            counts = [len(some) for some in ends]
            told = fewest_carts(counts, [(1, 5)] * len(counts), 5)
            self.assertEqual(told[1], (sum(counts) + 4) // 5)
            self.assertIs(shows_carts(counts, [(1, 5)] * len(counts), 5, *told[1:]), True)
            done += 1
        self.assertGreater(done, 30)

    def test_one_volume_more_on_a_run_s_shelves(self):
        done = 0
        for begin in range(150):
            shelves, runs, volumes, years, _ = some_case(begin)
            plan = planned_or_refused(Scheme(runs), stock_of(volumes), shelves, years)
            if isinstance(plan, type):
                continue
            rows, lengths = dict(plan.rows()), {shelf[0]: shelf[2] for shelf in shelves}
            for name, had, _, _ in plan.told():
                if not 1 <= len(had) <= 12:
                    continue
                size, mark, _ = Scheme(runs).span(name)
                things = ([lengths[shelf] for shelf in had], [rows[shelf] for shelf in had],
                          ("zzz", "0" if mark is None else mark, size, 15))
                try:
                    told = widened(*things)
                except NoRoom:
                    continue
                self.assertIs(shows_widened(*things, told), True)
                done += 1
        self.assertGreater(done, 30)

    def test_the_most_years_are_told_alike(self):
        for begin in range(60):
            shelves, runs, volumes, _, _ = some_case(begin)
            scheme, stock = Scheme(runs), stock_of(volumes)
            desk = Desk()
            desk.run_lines(lines_of(shelves, runs, volumes, House([])))
            if scheme.lost(stock):
                self.assertEqual(desk.run_lines(["most 20"]), ["refused"])
                continue
            most = most_years(scheme, stock, shelves, 20)
            self.assertEqual(desk.say("most 20"), "none" if most is None else str(most))
            if most is not None:
                self.assertEqual(desk.say(f"plan {most}"), str(planned(scheme, stock, shelves, most).used()))
                if most < 20:
                    self.assertEqual(desk.run_lines([f"plan {most + 1}"]), ["refused"])

    def test_two_of_a_kind_have_nothing_in_common(self):
        stock = stock_of([("va", "a", 1, 5)])
        scheme, shelves = Scheme([("ra", 1, None, 0, 0, None)]), [("na", 1, 9)]
        plan = planned(scheme, stock, shelves, 0)
        house = House([("oa", 1, 9)])
        house.stand("oa", ("va", "a", 1, 5))
        move = Move(house, plan, 9, 1)
        stock.drop("va")
        house.take("va")
        shelves.clear()
        self.assertEqual(plan.rows(), [("na", [("va", "a", 1, 5)])])
        self.assertEqual(move.where("va"), ("old", "oa", 0))
        self.assertEqual(show_case(shelves, scheme, stock), "run ra 1 - 0 0 -")
        self.assertEqual(Stock().volumes(), [])

    def test_all_refusals_are_shelves_errors(self):
        plan = planned(Scheme([]), Stock(), [], 0)
        for call in [lambda: Desk().say("x"), lambda: read_case(None), lambda: read_house("x"),
                     lambda: widened(None, None, None), lambda: Move(House([]), plan, 0, 0)]:
            with self.assertRaises(ShelvesError):
                call()
            with self.assertRaises(ValueError):
                call()


if __name__ == "__main__":
    unittest.main()
