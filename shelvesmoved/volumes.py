"""Volumes: tuples (name, mark, size, width), and their order."""

from shelvesmoved.errors import NoMark, NoName, NoNumber, NoVolume
from shelvesmoved.marks import is_mark, mark_key
from shelvesmoved.words import is_name, is_whole

GREATEST_SIZE = 9
GREATEST_WIDTH = 99
MOST_VOLUMES = 60


def is_volume(thing):
    """Whether a thing is a volume."""
    if not isinstance(thing, tuple) or len(thing) != 4:
        return False
    name, mark, size, width = thing
    return is_name(name) and is_mark(mark) and is_size(size) and is_width(width)


def need_volume(thing):
    """Refuses what is no volume."""
    if not isinstance(thing, tuple) or len(thing) != 4:
        raise NoVolume(thing)
    name, mark, size, width = thing
    if not is_name(name):
        raise NoName(name)
    if not is_mark(mark):
        raise NoMark(mark)
    if not is_size(size):
        raise NoNumber(size)
    if not is_width(width):
        raise NoNumber(width)


def volume_ahead(one, other):
    """Whether the one volume stands ahead of the other."""
    need_volume(one)
    need_volume(other)
    return volume_key(one) < volume_key(other)


def are_in_order(things):
    """Whether the things of a list or a tuple are volumes in order, no name there twice."""
    if not all([is_volume(thing) for thing in things]):
        return False
    # One name may stand at places far apart, with unlike marks, so that the order alone doesn't bar it.
    if len({volume[0] for volume in things}) < len(things):
        return False
    keys = [volume_key(volume) for volume in things]
    return all([keys[at] < keys[at + 1] for at in range(len(keys) - 1)])


def volume_key(volume):
    """What volumes are put in order by: of two keys Python orders that of the volume ahead first."""
    name, mark, size, _ = volume
    return (size, mark_key(mark), name)


def place_in(volume, row):
    """How many volumes of a row in order stand ahead of a volume."""
    key = volume_key(volume)
    low = 0
    high = len(row)
    while low < high:
        middle = (low + high) // 2
        if volume_key(row[middle]) < key:
            low = middle + 1
        else:
            high = middle
    return low


def widths_of(volumes):
    return [volume[3] for volume in volumes]


def is_size(thing):
    return is_whole(thing, 1, GREATEST_SIZE)


def is_width(thing):
    return is_whole(thing, 1, GREATEST_WIDTH)
