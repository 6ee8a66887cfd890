"""What the tests have in common: things of every kind, and how a refusal is checked."""

import unittest

from shelvesmoved.errors import NoName, ShelvesError
from shelvesmoved.stock import Stock
from shelvesmoved.volumes import are_in_order

THIRTY_FIGURES = 10 ** 30 - 1


def deep(levels):
    """Lists within one another."""
    thing = []
    for _ in range(levels - 1):
        thing = [thing]
    return thing


# None of these is a whole number, a name, a mark, a volume, or the parts of a mark.
ODD_THINGS = [
    None, True, False, "", " ", "\n", "-", ".", "A", "Z9", "a b", "ab\n", "\nab", "a.", ".a", "a..b", "x" * 400,
    "9" * 400, "01", "-1", "+1", "1_0", [], (), {}, [[]], ((),), [None], (None,), [True], (False,), {"a": 1},
    {0: "a", True: None}, deep(6), [0] * 400, ("a", "A", 1), ("a", "a", 1, 1, 1), ["a", "A", 1, 1], NoName("a"),
    ShelvesError("a"), [NoName(1)], (ShelvesError("a"),),
]

ODD_NUMBERS = [-THIRTY_FIGURES, -1, THIRTY_FIGURES]


class Case(unittest.TestCase):
    """A test case that knows refusals."""

    def assert_refused(self, kind, fields, call, *arguments):
        """The call is refused by just this class, with these very things, and changes no argument."""
        ahead = repr(arguments)
        with self.assertRaises(ShelvesError) as caught:
            call(*arguments)
        error = caught.exception
        self.assertIs(type(error), kind, repr(arguments))
        self.assertEqual(sorted(vars(error)), sorted(fields))
        for name, thing in fields.items():
            self.assertIs(getattr(error, name), thing)
        self.assertEqual(repr(arguments), ahead)

    def assert_found(self, kind, found, call, *arguments):
        self.assert_refused(kind, {"found": found}, call, *arguments)

    def assert_new_each_time(self, ask):
        """What is told is a new list each time, and what is done to it changes nothing of what is told next."""
        told = ask()
        self.assertIs(type(told), list)
        self.assertIsNot(told, ask())
        ahead = list(told)
        told.append("more")
        told.reverse()
        self.assertEqual(ask(), ahead)
        ask().clear()
        self.assertEqual(ask(), ahead)


def names(many):
    """As many unlike names, in order."""
    letters = "abcdefghijklmnopqrstuvwxyz"
    return [letters[at // 26] + letters[at % 26] for at in range(many)]


def stock_of(volumes):
    stock = Stock()
    for volume in volumes:
        stock.put_in(volume)
    return stock


def is_as_promised(house):
    """Whether a house is as point 7 promises it."""
    for (_, height, length), row in zip(house.shelves(), house.rows()):
        if sum(volume[3] for volume in row) > length or [volume for volume in row if volume[2] > height]:
            return False
    return are_in_order([volume for row in house.rows() for volume in row])


class Numbers:
    """Numbers in no plain order, the same ones each time."""

    def __init__(self, begin):
        self.state = begin

    def below(self, many):
        self.state = (self.state * 1103515245 + 12345) % 2 ** 31
        return self.state // 65536 % many

    def one_of(self, things):
        return things[self.below(len(things))]
