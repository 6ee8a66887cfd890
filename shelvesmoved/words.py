"""Whole numbers and names: what is one, what number a text writes, and where a name stands."""

from shelvesmoved.errors import Unknown

SMALL_LETTERS = "abcdefghijklmnopqrstuvwxyz"
FIGURES = "0123456789"
MOST_IN_NAME = 8


def is_whole(thing, low, high):
    """Whether a thing is a whole number from low to high, both counted."""
    return is_whole_from(thing, low) and thing <= high


def is_whole_from(thing, low):
    """Whether a thing is a whole number from low on."""
    # For Python a truth is an int, too; here it is no whole number.
    return isinstance(thing, int) and not isinstance(thing, bool) and low <= thing


def are_whole(things, low, high):
    """Whether things are a list or a tuple of whole numbers from low to high."""
    return isinstance(things, (list, tuple)) and all([is_whole(thing, low, high) for thing in things])


def is_letters(thing, most):
    """Whether a thing is a text of one to most small letters."""
    return isinstance(thing, str) and 1 <= len(thing) <= most and has_only(thing, SMALL_LETTERS)


def is_name(thing):
    """Whether a thing is a name."""
    return is_letters(thing, MOST_IN_NAME)


def whole_in(thing, low, high):
    """The whole number from low to high that a thing writes, None where it writes none."""
    if not isinstance(thing, str) or not is_plainly_written(thing):
        return None
    # Python refuses to read some thousands of figures; a text longer than high writes more than high anyway.
    if len(thing) > len(str(high)):
        return None
    number = int(thing)
    if low <= number <= high:
        return number
    return None


def is_plainly_written(text):
    """Whether a text is a whole number's figures, without a 0 ahead but in 0 itself."""
    if text == "" or not has_only(text, FIGURES):
        return False
    return text == "0" or text[0] != "0"


def has_only(text, signs):
    """Whether each sign of a text is one of the told ones."""
    return all([sign in signs for sign in text])


def names_of(rows):
    """The names of tuples that begin with a name, as volumes, runs and shelves do."""
    return [row[0] for row in rows]


def spot_of(name, rows):
    """The place of the tuple that begins with a name; refuses any thing that is no name of one."""
    names = names_of(rows)
    # Not asked of a dict: what is handed in may be a list, which can't be a key.
    if name not in names:
        raise Unknown(name)
    return names.index(name)
