"""A stock of volumes."""

from shelvesmoved.errors import NoNumber, Taken, TooMany
from shelvesmoved.marks import need_mark
from shelvesmoved.volumes import MOST_VOLUMES, is_size, is_width, need_volume, place_in, widths_of
from shelvesmoved.words import names_of, spot_of


class Stock:
    """Volumes, none at first, each name there once."""

    def __init__(self):
        # Always in order.
        self._volumes = []

    def put_in(self, volume):
        """Puts a volume in, and tells its place in the order."""
        need_volume(volume)
        if volume[0] in self.names():
            raise Taken(volume[0])
        if self.many() >= MOST_VOLUMES:
            raise TooMany(self.many() + 1)
        place = place_in(volume, self._volumes)
        self._volumes.insert(place, volume)
        return place

    def drop(self, name):
        """Drops the volume of a name, and tells it."""
        return self._volumes.pop(self.spot(name))

    def widen(self, name, width):
        """Gives the volume of a name another width, and tells the one that it had."""
        place = self.spot(name)
        if not is_width(width):
            raise NoNumber(width)
        volume = self._volumes[place]
        self._volumes[place] = volume[:3] + (width,)
        return volume[3]

    def volumes(self):
        """The volumes, in order."""
        return list(self._volumes)

    def names(self):
        """The names of the volumes, in their order."""
        return names_of(self._volumes)

    def many(self):
        """How many volumes there are."""
        return len(self._volumes)

    def total(self):
        """How wide the volumes are together."""
        return sum(widths_of(self._volumes))

    def volume(self, name):
        """The volume of a name."""
        return self._volumes[self.spot(name)]

    def spot(self, name):
        """The place in the order of the volume of a name."""
        return spot_of(name, self._volumes)

    def of_mark(self, size, mark):
        """The volumes that have a size and a mark, in order."""
        if not is_size(size):
            raise NoNumber(size)
        need_mark(mark)
        return [volume for volume in self._volumes if volume[2] == size and volume[1] == mark]

    def alike(self, name):
        """The volumes that have the size and the mark of the one of a name, itself too, in order."""
        _, mark, size, _ = self.volume(name)
        return self.of_mark(size, mark)

    def copied(self):
        """Another stock with the same volumes."""
        other = Stock()
        other._volumes = list(self._volumes)
        return other
