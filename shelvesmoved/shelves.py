"""Shelves: tuples (name, height, length), and houses in which volumes stand on them."""

from shelvesmoved.errors import (Broken, NoName, NoNumber, NoRoom, NoRows, NoShelf, Taken, TooLow, TooMany,
                                 Unknown)
from shelvesmoved.volumes import GREATEST_SIZE, MOST_VOLUMES, need_volume, place_in, volume_key, widths_of
from shelvesmoved.words import is_name, is_whole, names_of, spot_of

MOST_SHELVES = 40
GREATEST_LENGTH = 999


class House:
    """Shelves on which volumes stand in order, on each shelf and from shelf to shelf."""

    def __init__(self, shelves):
        need_shelves(shelves)
        self._shelves = list(shelves)
        self._rows = [[] for _ in shelves]

    def stand(self, shelf, volume):
        """Puts a volume on a shelf, and tells its place there."""
        at = spot_of(shelf, self._shelves)
        need_volume(volume)
        name, _, size, width = volume
        if self.where(name) is not None:
            raise Taken(name)
        if self.many() >= MOST_VOLUMES:
            raise TooMany(self.many() + 1)
        if size > self._shelves[at][1]:
            raise TooLow(name, shelf)
        if width > self.free(shelf):
            raise NoRoom(shelf)
        if self._is_broken_by(at, volume):
            raise Broken(name)
        place = place_in(volume, self._rows[at])
        self._rows[at].insert(place, volume)
        return place

    def take(self, name):
        """Takes a volume from its shelf, and tells it."""
        found = self.where(name)
        if found is None:
            raise Unknown(name)
        shelf, place = found
        return self._rows[spot_of(shelf, self._shelves)].pop(place)

    def shift(self, name, shelf):
        """Puts a volume that stands here on a shelf, and tells its place there."""
        # It is tried in a copy, so that a volume that can't be put there stands where it stood.
        other = self.copied()
        volume = other.take(name)
        # A refusal is to have the very name that was handed in here.
        place = other.stand(shelf, (name,) + volume[1:])
        self._rows = other._rows
        return place

    def shelves(self):
        """The shelves, in their order."""
        return list(self._shelves)

    def row(self, shelf):
        """The volumes on a shelf, in order."""
        return list(self._rows[spot_of(shelf, self._shelves)])

    def free(self, shelf):
        """How much of a shelf's length is free."""
        at = spot_of(shelf, self._shelves)
        return self._shelves[at][2] - sum(widths_of(self._rows[at]))

    def rows(self):
        """The volumes on each shelf, shelf by shelf."""
        return [list(row) for row in self._rows]

    def volumes(self):
        """All volumes, in order."""
        return flat(self._rows)

    def many(self):
        """How many volumes stand here."""
        return len(flat(self._rows))

    def where(self, name):
        """The shelf's name and the place on it where the volume of a name stands, None where there is none."""
        for shelf, row in zip(self._shelves, self._rows):
            names = names_of(row)
            if name in names:
                return (shelf[0], names.index(name))
        return None

    def copied(self):
        """Another house with the same shelves, on which the same volumes stand."""
        other = House(self._shelves)
        other._rows = self.rows()
        return other

    def _is_broken_by(self, at, volume):
        """Whether a volume on the shelf at this place would break the order from shelf to shelf."""
        key = volume_key(volume)
        # All stand in order, so that the two nearest ones on other shelves speak for all others there.
        ahead = flat(self._rows[:at])[-1:]
        behind = flat(self._rows[at + 1:])[:1]
        return any([key < volume_key(other) for other in ahead]) or any([volume_key(other) < key for other in behind])


def house_of(shelves, rows):
    """A house of these shelves, on which these rows of volumes stand."""
    house = House(shelves)
    if not are_rows(rows, len(shelves)):
        raise NoRows(rows)
    for shelf, row in zip(shelves, rows):
        for volume in row:
            house.stand(shelf[0], volume)
    return house


def need_shelves(shelves):
    """Refuses what are no shelves of a house."""
    if not isinstance(shelves, (list, tuple)):
        raise NoShelf(shelves)
    if len(shelves) > MOST_SHELVES:
        raise TooMany(len(shelves))
    for place, shelf in enumerate(shelves):
        need_shelf(shelf, shelves[:place])


def need_shelf(shelf, ahead):
    """Refuses what is no shelf, or can't be one behind those that stand ahead of it."""
    if not isinstance(shelf, tuple) or len(shelf) != 3:
        raise NoShelf(shelf)
    name, height, length = shelf
    if not is_name(name):
        raise NoName(name)
    if name in names_of(ahead):
        raise Taken(name)
    # A shelf is as high as the greatest size that it bears.
    if not is_whole(height, 1, GREATEST_SIZE):
        raise NoNumber(height)
    if not is_whole(length, 1, GREATEST_LENGTH):
        raise NoNumber(length)


def are_rows(things, many):
    """Whether things are a list or a tuple of so many lists and tuples."""
    if not isinstance(things, (list, tuple)) or len(things) != many:
        return False
    return all([isinstance(thing, (list, tuple)) for thing in things])


def flat(rows):
    """All that stands in rows, row by row, in one list."""
    return [volume for row in rows for volume in row]
