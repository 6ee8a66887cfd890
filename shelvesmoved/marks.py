"""Marks: their parts, and their order."""

from shelvesmoved.errors import NoMark
from shelvesmoved.words import is_letters, is_whole, whole_in

MOST_PARTS = 4
GREATEST_PART = 999999
MOST_LETTERS = 6


def is_mark(thing):
    """Whether a thing is a mark."""
    return isinstance(thing, str) and are_parts(read_parts(thing))


def mark_parts(mark):
    """The parts of a mark, a list of whole numbers and texts."""
    need_mark(mark)
    return read_parts(mark)


def mark_of(parts):
    """The mark that has these parts, a list or a tuple."""
    if not isinstance(parts, (list, tuple)) or not are_parts(parts):
        raise NoMark(parts)
    return ".".join([str(part) for part in parts])


def mark_ahead(one, other):
    """Whether the one mark stands ahead of the other."""
    need_mark(one)
    need_mark(other)
    return mark_key(one) < mark_key(other)


def marks_in_order(marks):
    """A list of the marks in their order, each as often as it was handed in."""
    need_marks(marks)
    return sorted(marks, key=mark_key)


def unlike_marks(marks):
    """How many different marks are among these."""
    need_marks(marks)
    return len(set(marks))


def begins_with(mark, beginning):
    """Whether a mark's first parts are those of the beginning."""
    need_mark(mark)
    need_mark(beginning)
    first = read_parts(beginning)
    return read_parts(mark)[:len(first)] == first


def need_mark(thing):
    """Refuses what is no mark."""
    if not is_mark(thing):
        raise NoMark(thing)


def need_marks(things):
    """Refuses what is no list and no tuple of marks."""
    if not isinstance(things, (list, tuple)):
        raise NoMark(things)
    for thing in things:
        need_mark(thing)


def mark_key(mark):
    """What marks are put in order by: of two keys Python orders that of the mark ahead first."""
    return [part_key(part) for part in read_parts(mark)]


def part_key(part):
    # A number and letters can't be compared, so that the first thing tells them apart: 0 ahead of 1.
    if isinstance(part, str):
        return (1, 0, part)
    return (0, part, "")


def read_parts(text):
    """What stands between the points of a text, numbers that a part may be as whole numbers."""
    return [read_part(word) for word in text.split(".")]


def read_part(word):
    number = whole_in(word, 0, GREATEST_PART)
    if number is None:
        return word
    return number


def are_parts(things):
    """Whether the things of a list or a tuple are the parts of a mark."""
    return 1 <= len(things) <= MOST_PARTS and all([is_part(thing) for thing in things])


def is_part(thing):
    return is_whole(thing, 0, GREATEST_PART) or is_letters(thing, MOST_LETTERS)
