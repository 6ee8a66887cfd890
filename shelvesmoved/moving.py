"""Moves: volumes that go from an old house to a new one, load by load, on carts."""

from shelvesmoved.carts import load_ends, need_capacity, need_narrow
from shelvesmoved.cutting import parts_by
from shelvesmoved.errors import Away, Empty, Loaded, NoCart, NoLoad, NoNumber, NotOut, Out, Unlike
from shelvesmoved.shelves import House
from shelvesmoved.volumes import place_in, volume_key, widths_of
from shelvesmoved.words import is_whole, names_of, spot_of

MOST_CARTS = 9
OLD = "old"
NEW = "new"
CART = "cart"
OUT = "out"


class Move:
    """Each volume of a plan at one place alone: in the old house, on a cart, in the new house, or out."""

    def __init__(self, old, plan, capacity, carts):
        need_alike(old.volumes(), plan.volumes())
        need_capacity(capacity)
        need_narrow(widths_of(plan.volumes()), capacity)
        if not is_whole(carts, 1, MOST_CARTS):
            raise NoNumber(carts)
        self._plan = plan
        self._capacity = capacity
        # How the old house stood at first, and how the new one is to stand in the end; these two never change.
        self._first = old.copied()
        self._end = plan.house()
        self._old = old.copied()
        self._new = House(plan.shelves())
        self._loads = loads_of(plan, capacity)
        # How many loads wait no more; they go in their order.
        self._begun = 0
        # For each cart, that numbered 1 at the place 0: where it is, the load that is on it, and the volumes.
        self._at = [OLD] * carts
        self._on = [None] * carts
        self._held = [[] for _ in range(carts)]
        self._journal = []

    def load(self, cart):
        """Puts the first load that waits on a cart, and tells the names of those volumes that went there."""
        place = self._place_of(cart)
        if self._at[place] == NEW:
            raise Away(cart)
        if self._on[place] is not None:
            raise Loaded(cart)
        if self.left() == 0:
            raise NoLoad()
        volumes = [volume for volume in self._loads[self._begun] if self._old.where(volume[0]) is not None]
        for volume in volumes:
            self._old.take(volume[0])
        self._held[place] = volumes
        self._on[place] = self._begun
        self._begun += 1
        self._journal.append(("load", cart, names_of(volumes)))
        return names_of(volumes)

    def drive(self, cart):
        """Drives a cart to the other house, and tells which one that is."""
        place = self._place_of(cart)
        if self._at[place] == OLD:
            self._at[place] = NEW
        else:
            self._at[place] = OLD
        self._journal.append(("drive", cart, self._at[place]))
        return self._at[place]

    def unload(self, cart):
        """Puts all volumes on a cart on the shelves on which the plan has them, and tells their names."""
        place = self._place_of(cart)
        if self._at[place] == OLD:
            raise Away(cart)
        if self._on[place] is None:
            raise Empty(cart)
        volumes = self._held[place]
        for volume in volumes:
            stand_as_in(self._end, self._new, volume)
        self._held[place] = []
        self._on[place] = None
        self._journal.append(("unload", cart, names_of(volumes)))
        return names_of(volumes)

    def ask(self, name):
        """Takes a volume from where it is, and tells where that was."""
        found = self.where(name)
        if found[0] == OUT:
            raise Out(name)
        if found[0] == OLD:
            self._old.take(name)
        elif found[0] == NEW:
            self._new.take(name)
        else:
            _, cart, place = found
            self._held[cart - 1].pop(place)
        self._journal.append(("ask", name))
        return found

    def back(self, name):
        """Puts a volume that is out where its load is by now, and tells where that is."""
        if self.where(name)[0] != OUT:
            raise NotOut(name)
        volume = self._volume(name)
        number = self._number_of(volume)
        if number >= self._begun:
            stand_as_in(self._first, self._old, volume)
        elif number in self._on:
            row = self._held[self._on.index(number)]
            row.insert(place_in(volume, row), volume)
        else:
            stand_as_in(self._end, self._new, volume)
        self._journal.append(("back", name))
        return self.where(name)

    def where(self, name):
        """Where a volume is: in a house or on a cart with its place there, or out."""
        self._volume(name)
        for word, house in ((OLD, self._old), (NEW, self._new)):
            found = house.where(name)
            if found is not None:
                return (word,) + found
        for place, row in enumerate(self._held):
            names = names_of(row)
            if name in names:
                return (CART, place + 1, names.index(name))
        return (OUT,)

    def old_house(self):
        """The old house, as it stands, a house of its own."""
        return self._old.copied()

    def new_house(self):
        """The new house, as it stands, a house of its own."""
        return self._new.copied()

    def on_cart(self, cart):
        """The volumes on a cart, in order."""
        return list(self._held[self._place_of(cart)])

    def cart_at(self, cart):
        """At which house a cart is."""
        return self._at[self._place_of(cart)]

    def load_of(self, cart):
        """The number of the load that is on a cart, None where none is."""
        return self._on[self._place_of(cart)]

    def carts(self):
        """How many carts there are."""
        return len(self._at)

    def out(self):
        """The volumes that are out, in order."""
        return [volume for volume in self._plan.volumes() if self.where(volume[0]) == (OUT,)]

    def loads(self):
        """The names of the volumes of each load."""
        return [names_of(load) for load in self._loads]

    def left(self):
        """How many loads wait."""
        return len(self._loads) - self._begun

    def ended(self):
        """Whether no load waits, none is on a cart, and no volume is out."""
        return self.left() == 0 and self._on == [None] * self.carts() and self.out() == []

    def journal(self):
        """All deeds that were not refused, in their order."""
        return [copied_deed(deed) for deed in self._journal]

    def copied(self):
        """Another move that stands as this one."""
        other = Move(self._first, self._plan, self._capacity, self.carts())
        other._old = self.old_house()
        other._new = self.new_house()
        other._begun = self._begun
        other._at = list(self._at)
        other._on = list(self._on)
        other._held = [list(row) for row in self._held]
        other._journal = self.journal()
        return other

    def _place_of(self, cart):
        """The place of a cart among all carts; refuses any thing that is no number of one."""
        if not is_whole(cart, 1, self.carts()):
            raise NoCart(cart)
        return cart - 1

    def _volume(self, name):
        """The volume of a name; refuses any thing that is no name of one."""
        volumes = self._plan.volumes()
        return volumes[spot_of(name, volumes)]

    def _number_of(self, volume):
        """The number of the load in which a volume goes."""
        return [number for number, load in enumerate(self._loads) if volume in load][0]


def loads_of(plan, capacity):
    """The volumes of each load, run by run."""
    told = []
    for name in names_of(plan.runs()):
        volumes = plan.volumes_of(name)
        told.extend(parts_by(volumes, load_ends(widths_of(volumes), capacity)))
    return told


def stand_as_in(model, house, volume):
    """Puts a volume on that shelf of a house on which it stands in another one of the same shelves."""
    shelf, _ = model.where(volume[0])
    house.stand(shelf, volume)


def copied_deed(deed):
    """A deed with lists of its own."""
    if deed[0] in ("load", "unload"):
        return (deed[0], deed[1], list(deed[2]))
    return deed


def need_alike(some, others):
    """Refuses the first volume, in order, that is among the ones, but not among the others."""
    unlike = [volume for volume in some if volume not in others] + [volume for volume in others if volume not in some]
    if unlike != []:
        raise Unlike(sorted(unlike, key=volume_key)[0][0])
