"""Points 110 to 113, and what is handed in of points 4, 5 and 6."""

import itertools
import unittest

from shelvesmoved.casetext import read_case, read_house, show_case, show_house
from shelvesmoved.errors import (Broken, NoMark, NoName, NoNumber, NoRoom, NoShelf, NoText, ShelvesError, Taken, TooLow,
                                 TooMany, Twice)
from shelvesmoved.runs import Scheme
from shelvesmoved.shelves import House, house_of
from shelvesmoved.stock import Stock
from tests.things import ODD_NUMBERS, ODD_THINGS, THIRTY_FIGURES, Case, Numbers, names, stock_of

SHELVES = [("one", 3, 40), ("two", 9, 999), ("aa", 1, 1)]
RUNS = [("rb", 2, "qa.9", 0, 999, "two"), ("ra", 1, None, 5, 0, None), ("rc", 1, "a.b.c.d", 999, 7, None)]
VOLUMES = [("va", "qa.76.b.3", 2, 99), ("vb", "0", 1, 1), ("one", "999999", 9, 50)]

TEXT = "\n".join([
    "shelf one 3 40", "shelf two 9 999", "shelf aa 1 1", "run ra 1 - 5 0 -", "run rc 1 a.b.c.d 999 7 -",
    "run rb 2 qa.9 0 999 two", "volume vb 0 1 1", "volume va qa.76.b.3 2 99", "volume one 999999 9 50"])

HOUSE_TEXT = "\n".join([
    "shelf one 3 40", "volume a 9 1 30", "volume b 10 1 5", "shelf two 9 999", "shelf aa 1 1", "volume c a 1 1"])

# A line of each form, with the kinds of its words.
LINES = {"shelf": "shelf sz 1 1", "run": "run rz 1 a 1 1 sz", "volume": "volume vz a 1 1"}

NO_NUMBERS = ["-", "-1", "+1", "01", "00", "1.0", "a", "1_0", "~", "9" * 31, "1" + "0" * 30]


def parts_of(told):
    """What a case that was read tells."""
    shelves, scheme, stock = told
    return shelves, scheme.runs(), stock.volumes()


def standing():
    return house_of([("one", 3, 40), ("two", 9, 999), ("aa", 1, 1)],
                    [[("a", "9", 1, 30), ("b", "10", 1, 5)], [], [("c", "a", 1, 1)]])


class ShowCaseTest(Case):
    def test_without_any(self):
        for shelves in [[], ()]:
            self.assertEqual(show_case(shelves, Scheme([]), Stock()), "")

    def test_a_case(self):
        for shelves in [SHELVES, tuple(SHELVES)]:
            self.assertEqual(show_case(shelves, Scheme(RUNS), stock_of(VOLUMES)), TEXT)

    def test_each_alone(self):
        rows = TEXT.split("\n")
        self.assertEqual(show_case(SHELVES, Scheme([]), Stock()), "\n".join(rows[:3]))
        self.assertEqual(show_case([], Scheme(RUNS), Stock()), "\n".join(rows[3:6]))
        self.assertEqual(show_case([], Scheme([]), stock_of(VOLUMES)), "\n".join(rows[6:]))
        self.assertEqual(show_case(SHELVES[:1], Scheme([]), Stock()), "shelf one 3 40")

    def test_none_is_written(self):
        for begin, at, line in [(None, None, "run ra 1 - 0 0 -"), ("a", None, "run ra 1 a 0 0 -"),
                                (None, "one", "run ra 1 - 0 0 one"), ("0", "zz", "run ra 1 0 0 0 zz")]:
            self.assertEqual(show_case([], Scheme([("ra", 1, begin, 0, 0, at)]), Stock()), line)

    def test_shelves_are_refused(self):
        scheme, stock = Scheme(RUNS), stock_of(VOLUMES)
        for thing in ODD_THINGS + ODD_NUMBERS + [House([])]:
            if not isinstance(thing, (list, tuple)):
                self.assert_found(NoShelf, thing, show_case, thing, scheme, stock)
        self.assert_refused(TooMany, {"count": 41}, show_case, [None] * 41, scheme, stock)
        self.assert_found(NoShelf, None, show_case, [SHELVES[0], None], scheme, stock)
        self.assert_found(NoName, "A", show_case, [("A", 1, 1)], scheme, stock)
        self.assert_found(Taken, "one", show_case, [SHELVES[0], SHELVES[0]], scheme, stock)
        self.assert_found(NoNumber, 0, show_case, (("sa", 0, 0),), scheme, stock)
        self.assert_found(NoNumber, True, show_case, [("sa", 1, True)], scheme, stock)

    def test_what_is_handed_in_stays(self):
        shelves, scheme, stock = list(SHELVES), Scheme(RUNS), stock_of(VOLUMES)
        show_case(shelves, scheme, stock)
        self.assertEqual(parts_of((shelves, scheme, stock)), parts_of((SHELVES, Scheme(RUNS), stock_of(VOLUMES))))


class NoTextCase(Case):
    """What read_case and read_house have in common."""

    def assert_lines(self, read, kinds):
        """Each bad line is refused by its number, wherever it stands among good ones."""
        good = ["shelf sa 9 99", "shelf sb 9 99", "shelf sc 9 99"]
        for bad in bad_lines(kinds):
            # Alone the line without signs would be the text of none.
            if bad != "":
                self.assert_refused(NoText, {"found": 1}, read, bad)
            for at in range(4):
                for more in [[], ["", "x"], ["shelf", "shelf sa 0 0"]]:
                    text = "\n".join(good[:at] + [bad] + good[at:] + more)
                    self.assert_refused(NoText, {"found": at + 1}, read, text)

    def assert_things(self, read):
        """Any thing that is no text."""
        for thing in ODD_THINGS + ODD_NUMBERS + [["shelf sa 1 1"], ("shelf sa 1 1",), b"", 0, False, NoText(0)]:
            if not isinstance(thing, str):
                self.assert_refused(NoText, {"found": 0}, read, thing)
        for thing in ODD_THINGS:
            if isinstance(thing, str) and thing != "":
                self.assert_refused(NoText, {"found": 1}, read, thing)


def bad_lines(kinds):
    """Lines that are none of those forms, of many kinds."""
    for word in ("shelf", "run", "volume"):
        line = LINES[word]
        if word not in kinds:
            yield line
            continue
        yield from [" " + line, line + " ", line.replace(" ", "  ", 1), line + " 1", line[:-2], line.upper(), word,
                    line.replace(word, word + "s"), line.replace(word, word.title()), word + " " + line,
                    line.replace(" ", ","), line.replace(" ", " , ", 1)]
        words = line.split(" ")
        yield from [" ".join(words[:at] + [""] + words[at + 1:]) for at in range(len(words))]
        for at, old in enumerate(words):
            if old == "1":
                for number in NO_NUMBERS:
                    yield " ".join(words[:at] + [number] + words[at + 1:])
    yield from ["", " ", "x", "old sa 1 1", "drop va", "runs", "text", "-", "shelf sa 1", "stand sa va", "#", "1"]


class ReadCaseTest(NoTextCase):
    def test_without_signs(self):
        told = read_case("")
        self.assertEqual([type(thing) for thing in told], [list, Scheme, Stock])
        self.assertIs(type(told), tuple)
        self.assertEqual(parts_of(told), ([], [], []))

    def test_a_case(self):
        told = read_case(TEXT)
        self.assertEqual([type(thing) for thing in told], [list, Scheme, Stock])
        self.assertEqual(parts_of(told), parts_of((SHELVES, Scheme(RUNS), stock_of(VOLUMES))))
        self.assertEqual([type(thing) for shelf in told[0] for thing in shelf], [str, int, int] * 3)

    def test_lines_in_any_order(self):
        rows = TEXT.split("\n")
        numbers = Numbers(41)
        for _ in range(40):
            turned = list(rows)
            for at in range(len(turned)):
                other = numbers.below(len(turned))
                turned[at], turned[other] = turned[other], turned[at]
            shelves = [shelf for row in turned for shelf in SHELVES if row.split()[:2] == ["shelf", shelf[0]]]
            told = read_case("\n".join(turned))
            self.assertEqual(parts_of(told), parts_of((shelves, Scheme(RUNS), stock_of(VOLUMES))))

    def test_each_alone(self):
        for row in TEXT.split("\n"):
            self.assertEqual(show_case(*read_case(row)), row)

    def test_none_may_be_told(self):
        self.assertEqual(read_case("run ra 1 - 0 0 -")[1].runs(), [("ra", 1, None, 0, 0, None)])
        self.assertEqual(read_case("run ra 1 a 0 0 aa")[1].runs(), [("ra", 1, "a", 0, 0, "aa")])
        # At any other place it is a word as it is.
        self.assert_refused(NoName, {"found": "-"}, read_case, "shelf - 1 1")
        self.assert_refused(NoName, {"found": "-"}, read_case, "run - 1 - 0 0 -")
        self.assert_refused(NoName, {"found": "-"}, read_case, "volume - - 1 1")
        self.assert_refused(NoMark, {"found": "-"}, read_case, "volume va - 1 1")

    def test_no_text(self):
        self.assert_things(read_case)

    def test_bad_lines(self):
        self.assert_lines(read_case, ("shelf", "run", "volume"))

    def test_a_last_line_without_signs(self):
        self.assert_refused(NoText, {"found": 10}, read_case, TEXT + "\n")
        self.assert_refused(NoText, {"found": 1}, read_case, "\n")
        self.assert_refused(NoText, {"found": 1}, read_case, "\n" + TEXT)
        self.assert_refused(NoText, {"found": 2}, read_case, "shelf sa 1 1\n\nshelf sb 1 1")

    def test_the_first_bad_line_ahead_of_all_else(self):
        for ahead in ["shelf A 1 1", "shelf sa 0 1", "run ra 10 - 0 0 -", "volume va a 1 100",
                      "shelf sa 1 1\nshelf sa 1 1"]:
            many = len(ahead.split("\n"))
            self.assert_refused(NoText, {"found": many + 1}, read_case, ahead + "\nx\ny")
            self.assert_refused(NoText, {"found": 1}, read_case, "x\n" + ahead)

    def test_thirty_and_thirty_one_figures(self):
        nines = str(THIRTY_FIGURES)
        for line, at in [("shelf sa N 1", 0), ("shelf sa 1 N", 0), ("run ra N - 0 0 -", 1), ("run ra 1 - N 0 -", 1),
                         ("run ra 1 - 0 N -", 1), ("volume va a N 1", 2), ("volume va a 1 N", 2)]:
            with self.assertRaises(NoNumber) as caught:
                read_case(line.replace("N", nines))
            self.assertEqual(caught.exception.found, THIRTY_FIGURES)
            self.assert_refused(NoText, {"found": 1}, read_case, line.replace("N", nines + "9"))
            self.assert_refused(NoText, {"found": 1}, read_case, line.replace("N", "1" + "0" * 30))

    def assert_case(self, kind, found, text):
        with self.assertRaises(ShelvesError) as caught:
            read_case(text)
        self.assertIs(type(caught.exception), kind)
        self.assertEqual(getattr(caught.exception, "count" if kind is TooMany else "found"), found)

    def test_the_shelves_are_refused(self):
        self.assert_case(NoName, "A", "shelf sa 1 1\nshelf A 0 0")
        self.assert_case(NoName, "abcdefghi", "shelf abcdefghi 1 1")
        self.assert_case(Taken, "sa", "shelf sa 1 1\nvolume va a 1 1\nshelf sa 1 1")
        self.assert_case(NoNumber, 10, "shelf sa 10 0")
        self.assert_case(NoNumber, 1000, "shelf sa 9 1000")
        self.assert_case(NoNumber, 0, "shelf sa 1 0")
        some = "\n".join(f"shelf {name} 1 1" for name in names(41))
        self.assert_case(TooMany, 41, some)
        self.assert_case(TooMany, 42, some + "\nshelf A 0 0")
        self.assertEqual(len(read_case("\n".join(some.split("\n")[:40]))[0]), 40)

    def test_the_runs_are_refused(self):
        good = "run ra 1 - 0 0 -\n"
        self.assert_case(NoName, "A", good + "run A 0 - 0 0 -")
        self.assert_case(Taken, "ra", good + "run ra 0 - 0 0 -")
        self.assert_case(NoNumber, 0, good + "run rb 0 A 0 0 A")
        self.assert_case(NoMark, "A", good + "run rb 1 A 1000 0 A")
        self.assert_case(NoNumber, 1000, good + "run rb 1 a 1000 0 A")
        self.assert_case(NoNumber, 1001, good + "run rb 1 a 0 1001 A")
        self.assert_case(NoName, "A", good + "run rb 1 a 0 0 A")
        self.assert_case(Twice, "rb", good + "run rb 1 - 0 0 -")
        self.assert_case(TooMany, 13, "\n".join(f"run {name} 1 {name} 0 0 -" for name in names(13)))
        self.assertEqual(len(read_case("\n".join(f"run {name} 1 {name} 0 0 -" for name in names(12)))[1].runs()), 12)

    def test_the_volumes_are_refused(self):
        good = "volume va a 1 1\n"
        self.assert_case(NoName, "A", good + "volume A A 0 0")
        self.assert_case(NoMark, "qa.76.b3", good + "volume vb qa.76.b3 0 0")
        self.assert_case(NoNumber, 0, good + "volume vb a 0 100")
        self.assert_case(NoNumber, 100, good + "volume vb a 1 100")
        self.assert_case(Taken, "va", good + "volume va b 2 2")
        some = "\n".join(f"volume {name} a 1 1" for name in names(60))
        self.assert_case(TooMany, 61, some + "\nvolume zz b 1 1")
        self.assert_case(Taken, "aa", some + "\nvolume aa b 1 1\nvolume A a 1 1")
        self.assertEqual(read_case(some)[2].many(), 60)

    def test_the_shelves_then_the_runs_then_the_volumes(self):
        rows = ["volume A a 1 1", "run B 1 - 0 0 -", "shelf C 1 1"]
        for turned in itertools.permutations(rows):
            self.assert_case(NoName, "C", "\n".join(turned))
        for turned in itertools.permutations(rows[:2] + ["shelf sc 1 1"]):
            self.assert_case(NoName, "B", "\n".join(turned))
        for turned in itertools.permutations(rows[:1] + ["shelf sc 1 1", "run rb 1 - 0 0 -"]):
            self.assert_case(NoName, "A", "\n".join(turned))
        # Each kind in the order of its lines.
        self.assert_case(NoName, "D", "shelf D 1 1\nshelf C 1 1")
        self.assert_case(NoName, "E", "run E 1 - 0 0 -\nrun B 1 - 0 0 -\nvolume A a 1 1")
        self.assert_case(NoName, "F", "volume F a 1 1\nvolume A a 1 1")

    def test_two_readings_have_nothing_in_common(self):
        one, other = read_case(TEXT), read_case(TEXT)
        one[0].clear()
        one[2].drop("va")
        self.assertEqual(parts_of(other), parts_of((SHELVES, Scheme(RUNS), stock_of(VOLUMES))))


class CaseThereAndBackTest(Case):
    def test_what_is_written_is_read_as_the_same(self):
        for begin in range(30):
            numbers = Numbers(begin)
            shelves = [(name, 1 + numbers.below(9), 1 + numbers.below(999)) for name in names(numbers.below(41))]
            runs = [(name, 1 + numbers.below(2), numbers.one_of([None, str(place), "a." + str(place)]),
                     numbers.below(1000), numbers.below(1000), numbers.one_of([None, "aa", "zz"]))
                    for place, name in enumerate(names(numbers.below(13)))]
            kept = []
            for run in runs:
                if run[1:3] not in [other[1:3] for other in kept]:
                    kept.append(run)
            stock = stock_of([(name, numbers.one_of(["a", "9", "10", "qa.76.b.3"]), 1 + numbers.below(9),
                               1 + numbers.below(99)) for name in names(numbers.below(61))])
            scheme = Scheme(kept)
            text = show_case(shelves, scheme, stock)
            told = read_case(text)
            self.assertEqual(parts_of(told), (shelves, scheme.runs(), stock.volumes()))
            self.assertEqual(show_case(*told), text)

    def test_what_is_read_is_written_as_the_same_lines(self):
        rows = TEXT.split("\n")
        for turned in itertools.islice(itertools.permutations(rows), 0, 362880, 3001):
            text = show_case(*read_case("\n".join(turned)))
            self.assertEqual(sorted(text.split("\n")), sorted(rows))
            self.assertEqual(text.split("\n")[3:], rows[3:])
            self.assertEqual(text.split("\n")[:3], [row for row in turned if row.startswith("shelf")])


class HouseTextTest(NoTextCase):
    def test_without_any(self):
        self.assertEqual(show_house(House([])), "")
        house = read_house("")
        self.assertIs(type(house), House)
        self.assertEqual((house.shelves(), house.rows()), ([], []))

    def test_a_house(self):
        self.assertEqual(show_house(standing()), HOUSE_TEXT)
        house = read_house(HOUSE_TEXT)
        self.assertIs(type(house), House)
        self.assertEqual((house.shelves(), house.rows()), (standing().shelves(), standing().rows()))
        self.assertEqual(show_house(House(SHELVES)), "\n".join(TEXT.split("\n")[:3]))

    def test_a_shelf_s_volumes_out_of_order(self):
        rows = HOUSE_TEXT.split("\n")
        turned = "\n".join([rows[0], rows[2], rows[1]] + rows[3:])
        self.assertEqual(read_house(turned).rows(), standing().rows())
        self.assertEqual(show_house(read_house(turned)), HOUSE_TEXT)
        some = ["volume a 9 1 1", "volume b 10 1 1", "volume c a 1 1", "volume d a 1 1"]
        for other in itertools.permutations(some):
            text = show_house(read_house("\n".join(["shelf sa 1 9", *other, "shelf sb 1 1"])))
            self.assertEqual(text, "\n".join(["shelf sa 1 9", *some, "shelf sb 1 1"]))

    def test_no_text(self):
        self.assert_things(read_house)

    def test_bad_lines(self):
        self.assert_lines(read_house, ("shelf", "volume"))

    def test_lines_of_runs_are_none(self):
        self.assert_refused(NoText, {"found": 1}, read_house, "run ra 1 - 0 0 -")
        self.assert_refused(NoText, {"found": 2}, read_house, "shelf sa 1 1\nrun ra 1 - 0 0 -\nx")

    def test_a_last_line_without_signs(self):
        self.assert_refused(NoText, {"found": 7}, read_house, HOUSE_TEXT + "\n")
        self.assert_refused(NoText, {"found": 1}, read_house, "\n" + HOUSE_TEXT)
        self.assert_refused(NoText, {"found": 1}, read_house, "\n")

    def test_a_volume_ahead_of_all_shelves(self):
        volume, shelf = "volume va a 1 1", "shelf sa 1 1"
        for text, number in [(volume, 1), (volume + "\n" + shelf, 1), (volume + "\n" + volume, 1),
                             (volume + "\nx\n" + shelf, 1), ("x\n" + volume + "\n" + shelf, 1),
                             (volume + "\n" + shelf + "\nx", 1), ("\n" + volume, 1), (shelf + "\nx\n" + volume, 2),
                             ("volume va a 1\n" + volume, 1), (volume + "\nshelf A 0 0", 1),
                             ("volume A A 0 0\n" + shelf, 1)]:
            self.assert_refused(NoText, {"found": number}, read_house, text)
        self.assertEqual(read_house(shelf + "\n" + volume).many(), 1)

    def assert_house(self, kind, fields, text):
        with self.assertRaises(ShelvesError) as caught:
            read_house(text)
        self.assertIs(type(caught.exception), kind)
        self.assertEqual(vars(caught.exception), fields)

    def test_then_as_a_house_is_made(self):
        self.assert_house(NoName, {"found": "A"}, "shelf sa 1 1\nvolume B a 1 1\nshelf A 1 1")
        self.assert_house(NoNumber, {"found": 0}, "shelf sa 1 0\nvolume B a 1 1")
        self.assert_house(NoNumber, {"found": THIRTY_FIGURES}, f"shelf sa {THIRTY_FIGURES} 0")
        self.assert_house(Taken, {"found": "sa"}, "shelf sa 1 9\nvolume va a 1 1\nshelf sa 1 9")
        self.assert_house(TooMany, {"count": 41}, "\n".join(f"shelf {name} 1 1" for name in names(41)))
        good = "shelf sa 1 9\nvolume va b 1 5\n"
        self.assert_house(NoName, {"found": "-"}, good + "volume - - 1 1")
        self.assert_house(NoMark, {"found": "-"}, good + "volume vb - 0 1")
        self.assert_house(NoNumber, {"found": 100}, good + "volume vb a 1 100")
        self.assert_house(Taken, {"found": "va"}, good + "shelf sb 1 9\nvolume va c 1 1")
        self.assert_house(TooLow, {"found": "vb", "shelf": "sa"}, good + "volume vb a 2 1")
        self.assert_house(NoRoom, {"found": "sa"}, good + "volume vb a 1 5")
        self.assert_house(Broken, {"found": "vb"}, good + "shelf sb 1 9\nvolume vb a 1 5\nvolume A a 1 1")
        some = "\n".join(f"volume {name} a 1 1" for name in names(60))
        self.assert_house(TooMany, {"count": 61}, "shelf sa 1 99\n" + some + "\nshelf sb 1 1\nvolume zz b 1 1")
        self.assertEqual(read_house("shelf sa 1 99\n" + some).many(), 60)

    def test_what_is_written_is_read_as_the_same(self):
        for begin in range(20):
            numbers = Numbers(begin)
            house = House([(name, 5 + numbers.below(5), 10 + numbers.below(90)) for name in names(12)])
            for _ in range(60):
                try:
                    house.stand(numbers.one_of(names(12)), (numbers.one_of(names(60)), str(numbers.below(30)),
                                                            1 + numbers.below(5), 1 + numbers.below(30)))
                except ShelvesError:
                    pass
            text = show_house(house)
            again = read_house(text)
            self.assertEqual((again.shelves(), again.rows()), (house.shelves(), house.rows()))
            self.assertEqual(show_house(again), text)

    def test_two_readings_have_nothing_in_common(self):
        one, other = read_house(HOUSE_TEXT), read_house(HOUSE_TEXT)
        one.take("a")
        self.assertEqual(other.rows(), standing().rows())


if __name__ == "__main__":
    unittest.main()
