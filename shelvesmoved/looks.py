"""Looks: how a volume is sought in a row by halves, and in a move, row by row."""

from shelvesmoved.errors import NoName, NoNumber, NoRows
from shelvesmoved.marks import mark_key, need_mark
from shelvesmoved.volumes import MOST_VOLUMES, are_in_order, is_size, volume_key
from shelvesmoved.words import are_whole, is_name, is_whole


def seek(row, size, mark, name=None):
    """The places that are looked at, and the first one at which what is sought stands, None where it doesn't."""
    need_row(row)
    need_sought(size, mark, name)
    return halved(row, sought_key(size, mark, name))


def shows_seek(row, size, mark, name, thing):
    """Whether a thing is the tuple that seek tells."""
    told = seek(row, size, mark, name)
    if not isinstance(thing, tuple) or len(thing) != 2:
        return False
    looks, place = thing
    if not isinstance(looks, list) or not are_whole(looks, 0, MOST_VOLUMES):
        return False
    return (place is None or is_whole(place, 0, MOST_VOLUMES)) and thing == told


def most_looks(many):
    """The most looks that any seeking in a row of so many volumes takes."""
    if not is_whole(many, 0, MOST_VOLUMES):
        raise NoNumber(many)
    # As many as the number has figures when it is written by halves: the least k for which 2 ** k is greater.
    return many.bit_length()


def sought(move, size, mark, name=None):
    """The places that are looked at in each row, and where the volume that is found is, None where none is."""
    need_sought(size, mark, name)
    told = []
    for word, row in rows_of(move):
        looks, place = halved(row, sought_key(size, mark, name))
        told.append((word, looks))
        if place is not None:
            return (told, move.where(row[place][0]))
    return (told, None)


def most_sought(move):
    """The most looks that any seeking in a move takes, as it stands."""
    return sum([most_looks(len(row)) for _, row in rows_of(move)])


def rows_of(move):
    """The rows of a move in which is sought, in this order, each behind what it is called."""
    rows = [("new", move.new_house().volumes())]
    for cart in range(1, move.carts() + 1):
        rows.append((cart, move.on_cart(cart)))
    rows.append(("old", move.old_house().volumes()))
    return rows


def halved(row, key):
    """The places of a row that are looked at by halves, and the first one at which the key is met, or None."""
    looks = []
    low = 0
    high = len(row)
    while low < high:
        middle = (low + high) // 2
        looks.append(middle)
        if first_of_key(row[middle], key) < key:
            low = middle + 1
        else:
            high = middle
    if low < len(row) and first_of_key(row[low], key) == key:
        return (looks, low)
    return (looks, None)


def sought_key(size, mark, name):
    """What is sought, as volumes are put in order by it: without a name it is their size and mark alone."""
    if name is None:
        return (size, mark_key(mark))
    return (size, mark_key(mark), name)


def first_of_key(volume, key):
    """As much of what a volume is put in order by as is sought."""
    return volume_key(volume)[:len(key)]


def need_row(row):
    """Refuses what is no row."""
    if not isinstance(row, (list, tuple)) or len(row) > MOST_VOLUMES or not are_in_order(row):
        raise NoRows(row)


def need_sought(size, mark, name):
    """Refuses what is no size, no mark, and neither a name nor None."""
    if not is_size(size):
        raise NoNumber(size)
    need_mark(mark)
    if name is not None and not is_name(name):
        raise NoName(name)
