"""Plans: which volume is to stand on which shelf, and how long what is left bears the growth."""

from shelvesmoved.cutting import cut_spread, fewest_for, parts_by
from shelvesmoved.errors import Crossed, Lost, NoNumber, NoRoom, Unknown
from shelvesmoved.shelves import flat, house_of, need_shelves
from shelvesmoved.volumes import widths_of
from shelvesmoved.words import is_whole, names_of, spot_of

GREATEST_YEARS = 99


class Plan:
    """Shelves with the volumes that are to stand there, run by run; it never changes."""

    def __init__(self, runs, volumes, shelves, years, parts):
        self._runs = runs
        self._volumes = volumes
        self._shelves = shelves
        self._years = years
        # For each run, in order, the places of its shelves, and the volumes on each of these.
        self._parts = parts

    def told(self):
        """For each run, in order, its name, the names of its shelves, its gap, and the year in which it fills."""
        return [(name, self._shelves_of(name), self.gap(name), self.fills(name)) for name in names_of(self._runs)]

    def gap(self, name):
        """The lengths of a run's shelves, less the widths of its volumes."""
        places, rows = self._part(name)
        return sum([self._shelves[place][2] for place in places]) - sum(widths_of(flat(rows)))

    def fills(self, name):
        """The first year in which a run's growth is more than its gap, None where it doesn't grow."""
        gap = self.gap(name)
        growth = self._runs[spot_of(name, self._runs)][3]
        if growth == 0:
            return None
        return gap // growth + 1

    def volumes_of(self, name):
        """The volumes of a run, in order."""
        _, rows = self._part(name)
        return flat(rows)

    def rows(self):
        """For each shelf its name and the volumes that are to stand there."""
        told = [(name, []) for name in names_of(self._shelves)]
        for places, rows in self._parts:
            for place, row in zip(places, rows):
                told[place][1].extend(row)
        return told

    def house(self):
        """The house that stands so."""
        return house_of(self._shelves, [row for _, row in self.rows()])

    def used(self):
        """How many shelves, from the first one on, are used."""
        return max([places[-1] + 1 for places, _ in self._parts if places != []], default=0)

    def years(self):
        """The years for which it is made."""
        return self._years

    def runs(self):
        """The runs, in order."""
        return list(self._runs)

    def volumes(self):
        """The volumes of which it was made, in order."""
        return list(self._volumes)

    def shelves(self):
        """The shelves, in their order."""
        return list(self._shelves)

    def _part(self, name):
        """The places of a run's shelves, and the volumes on each of these."""
        return self._parts[spot_of(name, self._runs)]

    def _shelves_of(self, name):
        """The names of a run's shelves."""
        places, _ = self._part(name)
        return [self._shelves[place][0] for place in places]


def planned(scheme, stock, shelves, years, even=False):
    """The plan of a case for so many years, an even one or one whose shelves are filled as the volumes come."""
    need_case(scheme, stock, shelves, years)
    runs = scheme.runs()
    groups = scheme.parted(stock)
    parts = []
    for run, (places, ends) in zip(runs, put_down(runs, groups, shelves, years)):
        volumes = groups[run[0]]
        if even:
            ends = even_ends(widths_of(volumes), [shelves[place][2] for place in places], run[4])
        parts.append((places, parts_by(volumes, ends)))
    return Plan(runs, stock.volumes(), list(shelves), years, parts)


def most_years(scheme, stock, shelves, most):
    """The greatest number of years up to most for which there is a plan, None where there is none for 0 years."""
    need_case(scheme, stock, shelves, most)
    runs = scheme.runs()
    groups = scheme.parted(stock)
    if not can_be_put_down(runs, groups, shelves, 0):
        return None
    low = 0
    high = most
    while low < high:
        middle = (low + high + 1) // 2
        if can_be_put_down(runs, groups, shelves, middle):
            low = middle
        else:
            high = middle - 1
    return low


def can_be_put_down(runs, groups, shelves, years):
    """Whether the shelves bear the runs for so many years."""
    try:
        put_down(runs, groups, shelves, years)
    except (Unknown, Crossed, NoRoom):
        return False
    return True


def put_down(runs, groups, shelves, years):
    """For each run, in order, the places of the fewest shelves that bear it, and the ends of its volumes there."""
    told = []
    behind = 0
    for run in runs:
        places, ends = fewest_shelves(run, widths_of(groups[run[0]]), shelves, behind, years)
        told.append((places, ends))
        # A run without shelves leaves the next ones where they would begin without it.
        if places != []:
            behind = places[-1] + 1
    return told


def fewest_shelves(run, widths, shelves, behind, years):
    """The places of the fewest shelves that bear a run behind those ahead of it, and the ends of its volumes there."""
    name, size, _, growth, keep, at = run
    begin = behind
    if at is not None:
        begin = spot_of(at, shelves)
        if begin < behind:
            raise Crossed(name)
    places = [place for place in range(begin, len(shelves)) if shelves[place][1] >= size]
    found = fewest_for(widths, [shelves[place][2] for place in places], keep, growth * years)
    if found is None:
        raise NoRoom(name)
    many, ends = found
    return (places[:many], ends)


def even_ends(widths, lengths, keep):
    """The ends by which a run is spread over those of its shelves that aren't shorter than its keep."""
    some = [length for length in lengths if length >= keep]
    # Without such a shelf there is nothing to spread over; the run has shelves for its growth alone.
    if some == []:
        return [0] * len(lengths)
    _, spread, _ = cut_spread(widths, some)
    # A shelf that bears none has the end of the one ahead of it.
    ends = []
    for place in range(len(lengths)):
        many = len([length for length in lengths[:place + 1] if length >= keep])
        ends.append(([0] + spread)[many])
    return ends


def need_case(scheme, stock, shelves, years):
    """Refuses what is no shelves and no number of years, and a volume that belongs to no run."""
    need_shelves(shelves)
    if not is_whole(years, 0, GREATEST_YEARS):
        raise NoNumber(years)
    lost = scheme.lost(stock)
    if lost != []:
        raise Lost(lost[0][0])
