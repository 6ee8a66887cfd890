"""Points 120 to 124, and desks of points 5 and 6."""

import unittest

from shelvesmoved.casetext import show_case, show_house
from shelvesmoved.desk import Desk
from shelvesmoved.errors import (Alone, Away, Broken, Crossed, Empty, Loaded, Lost, NoCart, NoLine, NoLoad, NoMark,
                                 NoName, NoNumber, NoRoom, NotOut, Out, Outside, ShelvesError, Taken, TooLow, TooMany,
                                 TooWide, Twice, Unknown, Unlike)
from shelvesmoved.runs import Scheme
from shelvesmoved.shelves import house_of
from tests.test_desklines import FORMS
from tests.things import ODD_NUMBERS, ODD_THINGS, THIRTY_FIGURES, Case, names, stock_of

# A case of three runs, one of them without shelves; the old house has all of its volumes.
LINES = [
    "shelf na 1 10", "shelf nb 9 20", "shelf nc 2 20", "run ra 1 - 1 0 -", "run rb 1 b 0 0 -", "run rc 2 - 2 1 -",
    "volume ab a.1 1 4", "volume aa a 1 4", "volume ac a 1 4", "volume ca z 2 9", "old oa 1 12", "old ob 9 30",
    "stand oa aa", "stand oa ac", "stand oa ab", "stand ob ca",
]

ANSWERS = ["ok"] * 6 + ["0", "0", "1", "3"] + ["ok"] * 2 + ["0", "1", "2", "0"]

CASE_TEXT = " / ".join([
    "shelf na 1 10", "shelf nb 9 20", "shelf nc 2 20", "run ra 1 - 1 0 -", "run rb 1 b 0 0 -", "run rc 2 - 2 1 -",
    "volume aa a 1 4", "volume ac a 1 4", "volume ab a.1 1 4", "volume ca z 2 9"])

OLD_TEXT = " / ".join([
    "shelf oa 1 12", "volume aa a 1 4", "volume ac a 1 4", "volume ab a.1 1 4", "shelf ob 9 30", "volume ca z 2 9"])

# Lines that ask, and change nothing.
ASKED = ["runs", "names", "lost", "alike aa", "of ra", "of rb", "of rc", "total", "most 99", "most 0", "told", "row na",
         "row nb", "row nc", "where aa", "where ab", "where ac", "where ca", "find 1 a -", "find 1 a ac", "find 2 z ca",
         "looks", "left", "out", "cart 1", "cart 2", "ended", "text", "house"]

OF_PLAN = ["move 9 2", "told", "row na"]
OF_MOVE = ["load 1", "unload 1", "drive 1", "ask aa", "back aa", "where aa", "find 1 a -", "looks", "left", "out",
           "cart 1", "ended"]


def desk_of(lines):
    desk = Desk()
    for line in lines:
        desk.say(line)
    return desk


def standing():
    return desk_of(LINES)


def moving():
    """A desk with a plan and a move: one load is done, one is on a cart, one waits, its volume is out."""
    return desk_of(LINES + ["plan 3", "move 9 2", "load 1", "drive 1", "unload 1", "load 2", "ask ca"])


def all_of(desk):
    return desk.run_lines(ASKED)


class DeskCase(Case):
    def assert_left(self, desk, kind, fields, line):
        """The line is refused, with what was read of it, and changes nothing."""
        ahead = all_of(desk)
        with self.assertRaises(ShelvesError) as caught:
            desk.say(line)
        self.assertIs(type(caught.exception), kind, line)
        self.assertEqual(vars(caught.exception), fields)
        for thing, told in zip(vars(caught.exception).values(), fields.values()):
            self.assertIs(type(thing), type(told))
        self.assertEqual(all_of(desk), ahead)

    def assert_found(self, kind, found, desk, line):
        self.assert_left(desk, kind, {"found": found}, line)

    def assert_said(self, desk, told):
        """Each line has this answer, one after the other."""
        for line, answer in told:
            self.assertEqual(desk.say(line), answer, line)
            self.assertIs(type(answer), str)


class LinesTest(DeskCase):
    def test_what_is_no_line(self):
        for desk in [Desk(), moving()]:
            ahead = all_of(desk)
            for thing in ODD_THINGS + ODD_NUMBERS + [b"runs", ["runs"], ("runs",), {"runs": 1}, "Runs", "runs ", "x",
                                                     " runs", "runs\n", "of", "of ra rb", "of  ra", "plan -", "plan 01",
                                                     "drop " + "x" * 396, "plan " + "9" * 31, "drop a\tb"]:
                self.assert_refused(NoLine, {"found": thing}, desk.say, thing)
            self.assertEqual(all_of(desk), ahead)

    def test_each_form_is_known(self):
        desk = moving()
        for word, form in FORMS.items():
            line = " ".join([word] + ["1" for _ in form.split()])
            try:
                desk.say(line)
            except NoLine:
                self.fail(line)
            except ShelvesError:
                pass
            desk = moving()

    def test_400_signs(self):
        desk = Desk()
        self.assert_found(Unknown, "x" * 395, desk, "drop " + "x" * 395)
        self.assert_found(NoLine, "drop " + "x" * 396, desk, "drop " + "x" * 396)

    def test_thirty_figures(self):
        desk = standing()
        nines = str(THIRTY_FIGURES)
        self.assert_found(NoNumber, THIRTY_FIGURES, desk, "plan " + nines)
        self.assert_found(NoLine, "plan " + nines + "0", desk, "plan " + nines + "0")


class AtFirstTest(DeskCase):
    def test_a_desk_without_any(self):
        self.assert_said(Desk(), [
            ("runs", "none"), ("names", "none"), ("lost", "none"), ("total", "0"), ("most 0", "0"), ("most 99", "99"),
            ("text", "none"), ("house", "none"), ("plan 0", "0"), ("told", "none"), ("even 99", "0"), ("told", "none"),
            ("move 1 1", "0"), ("left", "0"), ("looks", "0"), ("out", "none"), ("ended", "yes"), ("cart 1", "old none"),
            ("find 1 a -", "0 none"), ("drive 1", "new"), ("cart 1", "new none"), ("drive 1", "old")])

    def test_a_plan_or_a_move_where_there_is_none(self):
        for desk in [Desk(), standing()]:
            for line in OF_PLAN + OF_MOVE + ["move 0 0", "row zz", "load 0", "ask zz", "find 0 - -", "cart 99"]:
                self.assert_found(NoLine, line, desk, line)
        for desk in [desk_of(["plan 0"]), desk_of(LINES + ["plan 3"]), desk_of(LINES + ["even 3"])]:
            for line in OF_MOVE + ["load 0", "ask zz", "find 0 - -", "cart 99"]:
                self.assert_found(NoLine, line, desk, line)
            self.assertIsNotNone(desk.say("told"))

    def test_the_very_line_is_found(self):
        line = " ".join(["row", "na"])
        with self.assertRaises(NoLine) as caught:
            Desk().say(line)
        self.assertIs(caught.exception.found, line)


class CaseTest(DeskCase):
    def test_all_lines(self):
        desk = Desk()
        self.assertEqual([desk.say(line) for line in LINES], ANSWERS)
        self.assert_said(desk, [
            ("runs", "ra rb rc"), ("names", "aa ac ab ca"), ("lost", "none"), ("alike aa", "aa ac"),
            ("alike ab", "ab"), ("of ra", "aa ac ab"), ("of rb", "none"), ("of rc", "ca"), ("total", "21"),
            ("text", CASE_TEXT), ("house", OLD_TEXT), ("most 99", "5"), ("most 6", "5"), ("most 3", "3")])

    def test_shelves(self):
        desk = Desk()
        self.assert_said(desk, [("shelf sb 9 999", "ok"), ("shelf sa 1 1", "ok"),
                                ("text", "shelf sb 9 999 / shelf sa 1 1")])
        for line, kind, found in [("shelf sa 0 0", Taken, "sa"), ("shelf A 0 0", NoName, "A"),
                                  ("shelf - 1 1", NoName, "-"), ("shelf sc 0 0", NoNumber, 0),
                                  ("shelf sc 10 1", NoNumber, 10), ("shelf sc 9 1000", NoNumber, 1000)]:
            self.assert_found(kind, found, desk, line)
        desk = desk_of([f"shelf {name} 1 1" for name in names(40)])
        self.assert_left(desk, TooMany, {"count": 41}, "shelf A 0 0")

    def test_runs(self):
        desk = desk_of(["run rb 2 - 0 0 zz", "run ra 1 a 999 999 -", "run rc 1 - 0 0 -"])
        self.assertEqual(desk.say("runs"), "rc ra rb")
        self.assertEqual(desk.say("text"), "run rc 1 - 0 0 - / run ra 1 a 999 999 - / run rb 2 - 0 0 zz")
        for line, kind, found in [("run A 0 A 1000 0 A", NoName, "A"), ("run ra 0 A 1000 0 A", Taken, "ra"),
                                  ("run rd 0 A 1000 0 A", NoNumber, 0), ("run rd 1 A 1000 0 A", NoMark, "A"),
                                  ("run rd 1 a 1000 0 A", NoNumber, 1000), ("run rd 1 a 0 1001 A", NoNumber, 1001),
                                  ("run rd 1 a 0 0 A", NoName, "A"), ("run rd 1 a 0 0 -", Twice, "rd"),
                                  ("run - 1 - 0 0 -", NoName, "-"), ("run rd 2 - 0 0 -", Twice, "rd")]:
            self.assert_found(kind, found, desk, line)
        desk = desk_of([f"run {name} 1 {name} 0 0 -" for name in names(12)])
        self.assert_left(desk, TooMany, {"count": 13}, "run A 0 A 0 0 A")

    def test_split_and_join(self):
        desk = standing()
        self.assert_said(desk, [("split ra rd a.1", "ok"), ("runs", "ra rd rb rc"), ("of ra", "aa ac"), ("of rd", "ab"),
                                ("text", CASE_TEXT.replace("run rb", "run rd 1 a.1 1 0 - / run rb"))])
        for line, kind, found in [("split zz A A", Unknown, "zz"), ("split ra A A", NoName, "A"),
                                  ("split ra rb A", Taken, "rb"), ("split ra re A", NoMark, "A"),
                                  ("split ra re -", NoMark, "-"), ("split ra re a.1", Outside, "a.1"),
                                  ("split rb re b", Outside, "b"), ("join zz", Unknown, "zz"), ("join rb", Alone, "rb"),
                                  ("join rc", Alone, "rc"), ("join -", Unknown, "-")]:
            self.assert_found(kind, found, desk, line)
        self.assert_said(desk, [("join ra", "ok"), ("runs", "ra rb rc"), ("of ra", "aa ac ab"),
                                ("text", CASE_TEXT.replace("ra 1 - 1 0", "ra 1 - 2 0")), ("join ra", "ok"),
                                ("runs", "ra rc")])
        desk = desk_of([f"run {name} 1 {name}.0 0 0 -" for name in names(12)])
        self.assert_left(desk, TooMany, {"count": 13}, "split aa zz aa.5")

    def test_a_run_behind_a_split(self):
        desk = desk_of(["run ra 2 - 5 6 -", "split ra rb b", "run rc 1 - 0 0 -", "join ra", "run rd 2 b 0 0 -"])
        self.assertEqual(desk.say("text"), "run rc 1 - 0 0 - / run ra 2 - 10 6 - / run rd 2 b 0 0 -")

    def test_volumes(self):
        desk = standing()
        self.assert_said(desk, [("volume ba b 1 99", "3"), ("volume zz 0 9 1", "5"), ("of rb", "ba"), ("lost", "zz"),
                                ("total", "121"), ("drop zz", "ok"), ("lost", "none"), ("names", "aa ac ab ba ca")])
        for line, kind, found in [("volume A A 0 0", NoName, "A"), ("volume aa A 0 0", NoMark, "A"),
                                  ("volume aa a 0 100", NoNumber, 0), ("volume aa a 1 100", NoNumber, 100),
                                  ("volume aa a 1 1", Taken, "aa"), ("drop zz", Unknown, "zz"),
                                  ("drop ra", Unknown, "ra"), ("widen zz 0", Unknown, "zz"),
                                  ("widen aa 0", NoNumber, 0), ("widen aa 100", NoNumber, 100)]:
            self.assert_found(kind, found, desk, line)
        desk = desk_of([f"volume {name} a 1 1" for name in names(60)])
        self.assert_left(desk, TooMany, {"count": 61}, "volume zz a 1 1")

    def test_widen(self):
        desk = desk_of(LINES + ["volume ba b 1 99"])
        # One that doesn't stand in the old house gets any width.
        self.assert_said(desk, [("widen ba 98", "99"), ("widen ba 1", "98"), ("house", OLD_TEXT)])
        # The shelf oa is just full.
        self.assert_found(NoRoom, "oa", desk, "widen aa 5")
        self.assert_found(NoRoom, "oa", desk, "widen ab 99")
        self.assert_said(desk, [("widen aa 3", "4"), ("house", OLD_TEXT.replace("aa a 1 4", "aa a 1 3"))])
        self.assert_found(NoRoom, "oa", desk, "widen ac 6")
        self.assert_said(desk, [("widen ac 5", "4"), ("widen ac 5", "5"), ("widen aa 3", "3"), ("total", "22"),
                                ("text", CASE_TEXT.replace("aa a 1 4", "aa a 1 3").replace("ac a 1 4", "ac a 1 5")
                                 .replace(" / volume ca", " / volume ba b 1 1 / volume ca"))])
        # It stands on another shelf, which is as long as it gets wide.
        self.assert_found(NoRoom, "ob", desk, "widen ca 31")
        self.assert_said(desk, [("widen ca 30", "9"), ("lift ca", "ok"), ("widen ca 99", "30")])
        self.assert_found(NoRoom, "ob", desk, "stand ob ca")

    def test_drop_one_that_stands_in_the_old_house(self):
        desk = standing()
        self.assert_said(desk, [("drop ac", "ok"), ("house", OLD_TEXT.replace("volume ac a 1 4 / ", "")),
                                ("names", "aa ab ca"), ("volume ac b 1 4", "2"), ("stand oa ac", "2")])

    def test_the_old_house(self):
        desk = Desk()
        self.assert_said(desk, [("old ob 2 10", "ok"), ("old oa 9 999", "ok"), ("volume va 5 1 9", "0"),
                                ("volume vb 9 1 1", "1"), ("volume vc 10 3 2", "2"), ("stand ob vb", "0"),
                                ("stand ob va", "0"), ("old oc 1 1", "ok"),
                                ("house", "shelf ob 2 10 / volume va 5 1 9 / volume vb 9 1 1 / shelf oa 9 999"
                                          " / shelf oc 1 1"),
                                ("lift va", "ok"), ("stand oa vc", "0")])
        for line, kind, found in [("old A 0 0", NoName, "A"), ("old ob 0 0", Taken, "ob"), ("old od 0 0", NoNumber, 0),
                                  ("old od 10 1", NoNumber, 10), ("old od 1 1000", NoNumber, 1000),
                                  ("lift va", Unknown, "va"), ("lift zz", Unknown, "zz"), ("lift ob", Unknown, "ob")]:
            self.assert_found(kind, found, desk, line)
        # The name in the stock is looked at ahead of the shelf.
        for line, kind, found in [("stand zz zy", Unknown, "zy"), ("stand ob zy", Unknown, "zy"),
                                  ("stand zz va", Unknown, "zz"), ("stand oa vb", Taken, "vb"),
                                  ("stand oa va", Broken, "va")]:
            self.assert_found(kind, found, desk, line)
        self.assert_said(desk, [("lift vc", "ok"), ("volume vd z 1 9", "2"), ("volume ve z 1 1", "3")])
        self.assert_left(desk, TooLow, {"found": "vc", "shelf": "ob"}, "stand ob vc")
        self.assert_said(desk, [("stand ob vd", "1")])
        self.assert_found(NoRoom, "ob", desk, "stand ob ve")
        desk = desk_of([f"old {name} 1 1" for name in names(40)])
        self.assert_left(desk, TooMany, {"count": 41}, "old A 0 0")

    def test_questions_refused(self):
        desk = standing()
        for line, kind, found in [("alike zz", Unknown, "zz"), ("of zz", Unknown, "zz"), ("of aa", Unknown, "aa"),
                                  ("of -", Unknown, "-"), ("most 100", NoNumber, 100)]:
            self.assert_found(kind, found, desk, line)
        desk.say("volume zz z 9 1")
        self.assert_found(Lost, "zz", desk, "most 5")
        self.assert_found(NoNumber, 100, desk, "most 100")

    def test_questions_with_none(self):
        desk = desk_of(["run ra 1 - 0 0 -", "volume va a 1 5"])
        self.assert_said(desk, [("most 5", "none"), ("of ra", "va"), ("lost", "none"), ("shelf sa 1 4", "ok"),
                                ("most 5", "none"), ("shelf sb 1 5", "ok"), ("most 5", "5"),
                                ("run rb 1 b 0 0 zz", "ok"), ("most 5", "none")])


class PlanTest(DeskCase):
    def test_plan(self):
        desk = standing()
        self.assert_said(desk, [
            ("plan 0", "3"), ("told", "ra 18 19 na nb / rb 0 never / rc 11 6 nc"), ("row na", "aa ac"),
            ("row nb", "ab"), ("row nc", "ca"), ("plan 5", "3"), ("told", "ra 18 19 na nb / rb 0 never / rc 11 6 nc")])
        for word in ["zz", "aa", "oa", "-", "none", "n"]:
            self.assert_found(Unknown, word, desk, "row " + word)

    def test_even(self):
        desk = desk_of(["shelf sa 1 20", "shelf sb 1 20", "shelf sc 1 20", "run ra 1 - 1 0 -"]
                       + [f"volume {name} a 1 5" for name in names(4)])
        self.assert_said(desk, [
            ("plan 9", "2"), ("told", "ra 20 21 sa sb"), ("row sa", "aa ab ac ad"), ("row sb", "none"),
            ("even 9", "2"), ("row sa", "aa ab"), ("row sb", "ac ad"), ("row sc", "none"), ("told", "ra 20 21 sa sb"),
            ("even 0", "1"), ("told", "ra 0 1 sa"), ("plan 21", "3"), ("told", "ra 40 41 sa sb sc")])

    def test_refused_the_old_one_stays(self):
        for desk in [desk_of(LINES + ["even 3"]), moving()]:
            told = desk.say("told")
            for word in ["plan", "even"]:
                self.assert_found(NoNumber, 100, desk, word + " 100")
                self.assert_found(NoRoom, "rc", desk, word + " 6")
            self.assertEqual(desk.say("told"), told)

    def test_refusals(self):
        for more, kind, found in [("volume zz z 9 1", Lost, "zz"), ("run rd 3 - 0 0 zz", Unknown, "zz"),
                                  ("run rd 3 - 0 0 na", Crossed, "rd"), ("volume ba b 1 1", NoRoom, "rc")]:
            desk = desk_of(LINES + [more])
            for word in ["plan", "even"]:
                self.assert_found(kind, found, desk, word + " 0")
                self.assert_found(NoNumber, THIRTY_FIGURES, desk, f"{word} {THIRTY_FIGURES}")
                self.assert_found(NoLine, "told", desk, "told")

    def test_in_the_place_of_one_that_was(self):
        desk = desk_of(["shelf sa 1 20", "shelf sb 1 20", "run ra 1 - 1 0 -", "volume va a 1 5", "volume vb b 1 5"])
        self.assert_said(desk, [("plan 0", "1"), ("told", "ra 10 11 sa"), ("plan 11", "2"), ("told", "ra 30 31 sa sb"),
                                ("row sb", "none"), ("even 11", "2"), ("row sb", "vb"), ("plan 11", "2"),
                                ("row sb", "none")])

    def test_a_plan_anew_ends_the_move(self):
        for word in ["plan 3", "even 3"]:
            desk = moving()
            self.assertEqual(desk.say(word), "3")
            for line in OF_MOVE:
                self.assert_found(NoLine, line, desk, line)
            self.assert_said(desk, [("told", "ra 18 19 na nb / rb 0 never / rc 11 6 nc"), ("move 999 1", "2"),
                                    ("left", "2"), ("out", "none")])


class ChangesTest(DeskCase):
    CHANGES = ["shelf nd 1 1", "run rd 9 - 0 0 -", "split rc rd z", "join ra", "volume zz a 1 1", "drop aa",
               "widen aa 4", "widen aa 3", "old oc 1 1", "lift aa"]

    REFUSED = ["shelf na 1 1", "shelf nd 0 1", "run ra 9 - 0 0 -", "run rd 0 - 0 0 -", "split ra rb z", "split zz rd z",
               "join rb", "join zz", "volume aa a 1 1", "volume zz a 1 0", "drop zz", "widen zz 1", "widen aa 0",
               "widen aa 99", "old oa 1 1", "old oc 0 1", "stand oa aa", "stand zz aa", "stand oa zz", "lift zz"]

    def assert_ended(self, desk, line):
        self.assertIsNotNone(desk.say(line))
        for other in OF_PLAN + OF_MOVE:
            self.assert_found(NoLine, other, desk, other)

    def test_behind_each_there_is_no_plan_and_no_move(self):
        for line in self.CHANGES:
            self.assert_ended(desk_of(LINES + ["plan 3"]), line)
            self.assert_ended(desk_of(LINES + ["even 3", "move 9 2"]), line)
            self.assert_ended(moving(), line)
        self.assert_ended(desk_of(LINES + ["lift ca", "plan 3"]), "stand ob ca")

    def test_where_it_is_refused_both_stay(self):
        for desk in [desk_of(LINES + ["plan 3"]), moving()]:
            ahead = all_of(desk)
            for line in self.REFUSED:
                with self.assertRaises(ShelvesError):
                    desk.say(line)
                self.assertEqual(all_of(desk), ahead)
            self.assertEqual(desk.say("told"), "ra 18 19 na nb / rb 0 never / rc 11 6 nc")
        self.assertEqual(desk.say("left"), "1")

    def test_questions_leave_both(self):
        desk = moving()
        ahead = all_of(desk)
        self.assertNotIn("refused", ahead)
        self.assertEqual(all_of(desk), ahead)
        for line in ASKED:
            self.assertEqual(desk.say(line), desk.say(line))
        self.assertEqual(all_of(desk), ahead)

    def test_a_move_changes_nothing_of_the_case(self):
        desk = desk_of(LINES + ["plan 3", "move 999 1"])
        ahead = [desk.say(line) for line in ["text", "house", "told"]]
        desk.run_lines(["load 1", "drive 1", "unload 1", "drive 1", "load 1", "drive 1", "ask aa"])
        self.assertEqual([desk.say(line) for line in ["text", "house", "told"]], ahead)


class MoveTest(DeskCase):
    def test_to_its_end(self):
        desk = desk_of(LINES + ["plan 3"])
        self.assert_said(desk, [
            ("move 9 2", "3"), ("left", "3"), ("ended", "no"), ("looks", "3"), ("cart 1", "old none"), ("out", "none"),
            ("load 2", "aa ac"), ("left", "2"), ("cart 2", "old aa ac"), ("where ac", "cart 2 1"), ("drive 2", "new"),
            ("cart 2", "new aa ac"), ("unload 2", "aa ac"), ("cart 2", "new none"), ("where ac", "new na 1"),
            ("drive 2", "old"), ("load 1", "ab"), ("load 2", "ca"), ("left", "0"), ("drive 1", "new"),
            ("drive 2", "new"), ("unload 2", "ca"), ("ended", "no"), ("unload 1", "ab"), ("ended", "yes"),
            ("where ab", "new nb 0"), ("where ca", "new nc 0"), ("looks", "3"), ("house", OLD_TEXT)])

    def test_ask_and_back(self):
        desk = desk_of(LINES + ["plan 3", "move 9 2"])
        self.assert_said(desk, [
            ("ask ac", "old oa 1"), ("where ac", "out"), ("out", "ac"), ("ask aa", "old oa 0"), ("out", "aa ac"),
            ("load 1", "none"), ("cart 1", "old none"), ("back ac", "cart 1 0"), ("where ac", "cart 1 0"),
            ("cart 1", "old ac"), ("drive 1", "new"), ("back aa", "cart 1 0"), ("where ac", "cart 1 1"),
            ("ask ac", "cart 1 1"), ("unload 1", "aa"), ("back ac", "new na 1"), ("ask ac", "new na 1"),
            ("back ac", "new na 1"), ("out", "none"), ("ask ca", "old ob 0"), ("back ca", "old ob 0")])

    def test_find(self):
        desk = desk_of(LINES + ["plan 3", "move 9 2", "load 2"])
        self.assert_said(desk, [
            ("find 1 a -", "2 cart 2 0"), ("find 1 a ac", "2 cart 2 1"), ("find 1 a ab", "4 none"),
            ("find 1 a.1 -", "3 old oa 0"), ("find 1 a.1 ab", "3 old oa 0"), ("find 9 z -", "2 none"),
            ("find 2 z -", "3 old ob 0"), ("drive 2", "new"), ("unload 2", "aa ac"), ("find 1 a -", "2 new na 0"),
            ("find 1 a ac", "2 new na 1"), ("find 1 a.1 -", "3 old oa 0"), ("looks", "4"), ("ask ab", "old oa 0"),
            ("find 1 a.1 ab", "2 none"), ("find 1 a.1 -", "2 none"), ("looks", "3")])

    def test_find_in_a_move_of_none(self):
        self.assert_said(desk_of(["plan 0", "move 1 9"]), [("find 1 a -", "0 none"), ("find 9 a zz", "0 none")])

    def test_refusals(self):
        desk = moving()
        for line, kind, found in [
                ("load 0", NoCart, 0), ("drive 3", NoCart, 3), ("unload 9", NoCart, 9), ("cart 0", NoCart, 0),
                (f"cart {THIRTY_FIGURES}", NoCart, THIRTY_FIGURES), ("ask zz", Unknown, "zz"), ("ask ca", Out, "ca"),
                ("back zz", Unknown, "zz"), ("back aa", NotOut, "aa"), ("where zz", Unknown, "zz"),
                ("where -", Unknown, "-"), ("where oa", Unknown, "oa"), ("find 0 A A", NoNumber, 0),
                ("find 10 a -", NoNumber, 10), ("find 1 A A", NoMark, "A"), ("find 1 - -", NoMark, "-"),
                ("find 1 a A", NoName, "A"), ("move 0 0", NoNumber, 0), ("move 1000 1", NoNumber, 1000),
                ("move 8 0", TooWide, 9), ("move 9 0", NoNumber, 0), ("move 9 10", NoNumber, 10)]:
            self.assert_found(kind, found, desk, line)
        for line, kind in [("load 1", Away), ("load 2", Loaded), ("unload 2", Away), ("unload 1", Empty)]:
            self.assert_left(desk, kind, {"cart": int(line[-1])}, line)
        desk.run_lines(["drive 1", "load 1", "drive 1", "unload 1", "drive 1"])
        self.assert_left(desk, NoLoad, {}, "load 1")

    def test_unlike(self):
        for more, found in [(["lift aa"], "aa"), (["lift ca"], "ca"), (["volume a a 1 1"], "a")]:
            desk = desk_of(LINES + more + ["plan 0"])
            self.assert_found(Unlike, found, desk, "move 0 0")
            self.assert_found(NoLine, "left", desk, "left")

    def test_refused_the_old_one_stays(self):
        desk = moving()
        ahead = all_of(desk)
        for line in ["move 0 1", "move 5 1", "move 9 0"]:
            self.assertEqual(desk.run_lines([line]), ["refused"])
        self.assertEqual(all_of(desk), ahead)

    def test_in_the_place_of_one_that_was(self):
        desk = moving()
        self.assert_said(desk, [("out", "ca"), ("move 999 9", "2"), ("out", "none"), ("left", "2"),
                                ("where aa", "old oa 0"), ("cart 9", "old none"), ("load 9", "aa ac ab")])
        # Of the old house as the desk has it, whatever stood in the move.
        self.assertEqual(desk.say("house"), OLD_TEXT)


class RunLinesTest(DeskCase):
    def test_lines(self):
        for lines in [LINES, tuple(LINES)]:
            desk = Desk()
            told = desk.run_lines(lines)
            self.assertEqual(told, ANSWERS)
            self.assertIs(type(told), list)
            self.assertEqual(all_of(desk), all_of(standing()))

    def test_refused_ones_among_them(self):
        desk = Desk()
        told = [("shelf sa 1 5", "ok"), ("shelf sa 1 5", "refused"), (None, "refused"), (7, "refused"), ("", "refused"),
                ("runs", "none"), (["runs"], "refused"), ("x", "refused"), ("plan 0", "0"), ("told", "none"),
                ("row zz", "refused"), ("left", "refused"), ("volume A a 1 1", "refused"), ("volume va a 1 1", "0"),
                ("plan 0", "refused"), ("text", "shelf sa 1 5 / volume va a 1 1")]
        self.assertEqual(desk.run_lines([line for line, _ in told]), [answer for _, answer in told])

    def test_none(self):
        self.assertEqual(Desk().run_lines([]), [])
        self.assertEqual(Desk().run_lines(()), [])

    def test_any_things(self):
        things = [thing for thing in ODD_THINGS + ODD_NUMBERS if thing != "runs"]
        self.assertEqual(Desk().run_lines(things), ["refused"] * len(things))

    def test_what_is_no_list(self):
        desk = standing()
        ahead = all_of(desk)
        for thing in ODD_THINGS + ODD_NUMBERS + ["runs", {"runs": 1}, "shelf sa 1 1", desk]:
            if not isinstance(thing, (list, tuple)):
                self.assert_refused(NoLine, {"found": thing}, desk.run_lines, thing)
        self.assertEqual(all_of(desk), ahead)

    def test_the_list_is_a_new_one_each_time(self):
        desk = standing()
        self.assert_new_each_time(lambda: desk.run_lines(["runs", "names"]))

    def test_the_same_as_one_by_one(self):
        lines = LINES + ["plan 3", "x", "move 9 2", "load 1", "load 1", "drive 1", "unload 1"] + ASKED
        one, other = Desk(), Desk()
        told = []
        for line in lines:
            try:
                told.append(one.say(line))
            except ShelvesError:
                told.append("refused")
        self.assertEqual(other.run_lines(lines), told)

    def test_two_desks_have_nothing_in_common(self):
        one, other = standing(), standing()
        ahead = all_of(other)
        one.run_lines(["shelf sa 1 1", "run rd 3 - 0 0 -", "drop aa", "widen ca 1", "old oc 1 1", "lift ab", "plan 0"])
        self.assertEqual(all_of(other), ahead)
        self.assertEqual(all_of(standing()), ahead)
        one, other = moving(), moving()
        ahead = all_of(other)
        one.run_lines(["drive 1", "back ca", "drive 2", "unload 2", "ask aa"])
        self.assertEqual(all_of(other), ahead)

    def test_texts(self):
        desk = standing()
        shelves = [("na", 1, 10), ("nb", 9, 20), ("nc", 2, 20)]
        runs = [("ra", 1, None, 1, 0, None), ("rb", 1, "b", 0, 0, None), ("rc", 2, None, 2, 1, None)]
        volumes = [("aa", "a", 1, 4), ("ac", "a", 1, 4), ("ab", "a.1", 1, 4), ("ca", "z", 2, 9)]
        text = show_case(shelves, Scheme(runs), stock_of(volumes))
        self.assertEqual(desk.say("text").split(" / "), text.split("\n"))
        house = house_of([("oa", 1, 12), ("ob", 9, 30)], [volumes[:3], volumes[3:]])
        self.assertEqual(desk.say("house").split(" / "), show_house(house).split("\n"))


if __name__ == "__main__":
    unittest.main()
