"""Point 6: the refusals."""

import unittest

from shelvesmoved import errors
from tests.things import ODD_NUMBERS, ODD_THINGS

FIELDS = {
    "NoName": ["found"], "NoMark": ["found"], "NoNumber": ["found"], "NoVolume": ["found"], "NoRun": ["found"],
    "NoShelf": ["found"], "NoRows": ["found"], "NoText": ["found"], "NoLine": ["found"], "NoCart": ["found"],
    "NoList": ["found"], "Unknown": ["found"], "Taken": ["found"], "TooMany": ["count"], "Twice": ["found"],
    "Outside": ["found"], "Alone": ["found"], "TooLow": ["found", "shelf"], "NoRoom": ["found"],
    "TooWide": ["found"], "Broken": ["found"], "Lost": ["found"], "Crossed": ["found"], "Unlike": ["found"],
    "Away": ["cart"], "Loaded": ["cart"], "Empty": ["cart"], "NoLoad": [], "Out": ["found"], "NotOut": ["found"],
}


def made(name, things):
    return getattr(errors, name)(*things)


class ShelvesErrorTest(unittest.TestCase):
    def test_stands_straight_under_value_error(self):
        self.assertEqual(errors.ShelvesError.__bases__, (ValueError,))

    def test_tells_its_text(self):
        for text in ["", "a", "no room", "two\nlines", "x" * 400]:
            self.assertEqual(str(errors.ShelvesError(text)), text)


class RefusalsTest(unittest.TestCase):
    def test_all_are_there_and_no_others(self):
        classes = [name for name, thing in vars(errors).items() if isinstance(thing, type)]
        self.assertEqual(sorted(classes), sorted(list(FIELDS) + ["ShelvesError"]))

    def test_each_stands_straight_under_shelves_error(self):
        for name in FIELDS:
            self.assertEqual(getattr(errors, name).__bases__, (errors.ShelvesError,), name)
            self.assertEqual(getattr(errors, name).__module__, "shelvesmoved.errors")

    def test_none_stands_under_another_one(self):
        for name in FIELDS:
            for other in FIELDS:
                under = issubclass(getattr(errors, name), getattr(errors, other))
                self.assertEqual(under, name == other, (name, other))

    def test_fields_are_the_very_things(self):
        for name, fields in FIELDS.items():
            for thing in ODD_THINGS + ODD_NUMBERS:
                things = [thing, ["another"]][:len(fields)]
                error = made(name, things)
                self.assertEqual(list(vars(error)), fields, name)
                for field, one in zip(fields, things):
                    self.assertIs(getattr(error, field), one)

    def test_each_tells_a_text_whatever_it_is_made_of(self):
        for name, fields in FIELDS.items():
            for thing in ODD_THINGS + ODD_NUMBERS:
                told = str(made(name, [thing] * len(fields)))
                self.assertIs(type(told), str)
                self.assertNotEqual(told, "", name)
                self.assertEqual(told, str(made(name, ["other"] * len(fields))))

    def test_fields_are_each_their_own(self):
        error = errors.TooLow("vol", "shelf")
        self.assertEqual((error.found, error.shelf), ("vol", "shelf"))

    def test_as_many_things_as_fields(self):
        for name, fields in FIELDS.items():
            with self.assertRaises(TypeError):
                made(name, [1] * (len(fields) + 1))
            if fields:
                with self.assertRaises(TypeError):
                    made(name, [1] * (len(fields) - 1))

    def test_each_is_caught_as_value_error(self):
        for name, fields in FIELDS.items():
            with self.assertRaises(ValueError):
                raise made(name, [1] * len(fields))


if __name__ == "__main__":
    unittest.main()
