"""Lines: words with one blank between any two, of one of the forms that a desk knows."""

from shelvesmoved.errors import NoLine
from shelvesmoved.words import whole_in

MOST_SIGNS = 400
# Of at most thirty figures.
GREATEST_NUMBER = 999999999999999999999999999999
NO_WORD = "-"

# What stands behind the first word of each line.
FORMS = {
    "shelf": "NAME HEIGHT LENGTH",
    "run": "NAME SIZE BEGIN GROWTH KEEP AT",
    "split": "NAME FRESH MARK",
    "join": "NAME",
    "volume": "NAME MARK SIZE WIDTH",
    "drop": "NAME",
    "widen": "NAME WIDTH",
    "old": "NAME HEIGHT LENGTH",
    "stand": "SHELF NAME",
    "lift": "NAME",
    "plan": "YEARS",
    "even": "YEARS",
    "move": "CAPACITY CARTS",
    "load": "CART",
    "unload": "CART",
    "drive": "CART",
    "ask": "NAME",
    "back": "NAME",
    "runs": "",
    "names": "",
    "lost": "",
    "alike": "NAME",
    "of": "NAME",
    "total": "",
    "most": "YEARS",
    "told": "",
    "row": "SHELF",
    "where": "NAME",
    "find": "SIZE MARK SOUGHT",
    "looks": "",
    "left": "",
    "out": "",
    "cart": "CART",
    "ended": "",
    "text": "",
    "house": "",
}

NUMBERS = ("HEIGHT", "LENGTH", "SIZE", "WIDTH", "GROWTH", "KEEP", "YEARS", "CAPACITY", "CARTS", "CART")
# SOUGHT is the name of find, that may be left out as no other name may.
PERHAPS_NONE = ("BEGIN", "AT", "SOUGHT")


def read_line(line):
    """The first word of a line and the things that stand behind it, one by one in one tuple."""
    if not isinstance(line, str) or len(line) > MOST_SIGNS or not all([" " <= sign <= "~" for sign in line]):
        raise NoLine(line)
    told = things_in(line)
    if told is None:
        raise NoLine(line)
    return told


def things_in(line):
    """What read_line tells of a text, whatever its signs and its length are, None where it is of no form."""
    words = line.split(" ")
    if words[0] not in FORMS or "" in words:
        return None
    kinds = FORMS[words[0]].split()
    if len(words) != len(kinds) + 1:
        return None
    things = [words[0]]
    for kind, word in zip(kinds, words[1:]):
        thing = thing_of(kind, word)
        if thing is None and kind in NUMBERS:
            return None
        things.append(thing)
    return tuple(things)


def thing_of(kind, word):
    """What a word tells where this kind of word stands; None, too, where a number stands and it tells none."""
    if kind in NUMBERS:
        return whole_in(word, 0, GREATEST_NUMBER)
    if kind in PERHAPS_NONE and word == NO_WORD:
        return None
    return word
