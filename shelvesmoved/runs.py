"""Runs: tuples (name, size, begin, growth, keep, at), and schemes that part a stock by them."""

from shelvesmoved.errors import Alone, NoMark, NoName, NoNumber, NoRun, Outside, Taken, TooMany, Twice
from shelvesmoved.marks import is_mark, mark_ahead, mark_key, need_mark
from shelvesmoved.volumes import is_size, need_volume
from shelvesmoved.words import is_name, is_whole, names_of, spot_of

MOST_RUNS = 12
GREATEST_GROWTH = 999
GREATEST_KEEP = 999


class Scheme:
    """Runs in their order; it never changes."""

    def __init__(self, runs):
        need_runs(runs)
        self._runs = sorted(runs, key=run_key)

    def runs(self):
        """The runs, in order."""
        return list(self._runs)

    def names(self):
        """The names of the runs, in their order."""
        return names_of(self._runs)

    def run(self, name):
        """The run of a name."""
        return self._runs[spot_of(name, self._runs)]

    def run_of(self, volume):
        """The name of the run to which a volume belongs, None where there is none."""
        need_volume(volume)
        _, mark, size, _ = volume
        key = (size, mark_key(mark))
        told = None
        for run in self._runs:
            if run[1] == size and run_key(run) <= key:
                told = run[0]
        return told

    def span(self, name):
        """The size of a run, its begin, and the begin of the run of this size behind it, None where there is none."""
        behind = self._behind(name)
        _, size, begin, _, _, _ = self.run(name)
        if behind is None:
            return (size, begin, None)
        return (size, begin, behind[2])

    def parted(self, stock):
        """A dict from the names of all runs to the volumes of a stock that belong to them."""
        rows = {name: [] for name in self.names()}
        for volume in stock.volumes():
            name = self.run_of(volume)
            if name is not None:
                rows[name].append(volume)
        return rows

    def lost(self, stock):
        """The volumes of a stock that belong to no run."""
        return [volume for volume in stock.volumes() if self.run_of(volume) is None]

    def split(self, name, fresh, mark):
        """Another scheme, in which a run is split at a mark, and the one that begins there has the fresh name."""
        _, _, _, growth, keep, _ = self.run(name)
        if not is_name(fresh):
            raise NoName(fresh)
        if fresh in self.names():
            raise Taken(fresh)
        need_mark(mark)
        size, begin, end = self.span(name)
        if begin is not None and not mark_ahead(begin, mark):
            raise Outside(mark)
        if end is not None and not mark_ahead(mark, end):
            raise Outside(mark)
        # Behind twelve runs the one more is refused as in any scheme.
        return Scheme(self._runs + [(fresh, size, mark, growth, keep, None)])

    def joined(self, name):
        """Another scheme, in which a run and the one of its size behind it are one."""
        run = self.run(name)
        behind = self._behind(name)
        if behind is None:
            raise Alone(name)
        growth = min(run[3] + behind[3], GREATEST_GROWTH)
        keep = max(run[4], behind[4])
        both = run[:3] + (growth, keep, run[5])
        others = [other for other in self._runs if other[0] not in (run[0], behind[0])]
        return Scheme(others + [both])

    def _behind(self, name):
        """The run of the same size that stands behind the one of a name, None where there is none."""
        place = spot_of(name, self._runs) + 1
        if place == len(self._runs) or self._runs[place][1] != self.run(name)[1]:
            return None
        return self._runs[place]


def need_runs(runs):
    """Refuses what are no runs of a scheme."""
    if not isinstance(runs, (list, tuple)):
        raise NoRun(runs)
    if len(runs) > MOST_RUNS:
        raise TooMany(len(runs))
    for place, run in enumerate(runs):
        need_run(run, runs[:place])


def need_run(run, ahead):
    """Refuses what is no run, or can't be one beside those that were handed in ahead of it."""
    if not isinstance(run, tuple) or len(run) != 6:
        raise NoRun(run)
    name, size, begin, growth, keep, at = run
    if not is_name(name):
        raise NoName(name)
    if name in names_of(ahead):
        raise Taken(name)
    if not is_size(size):
        raise NoNumber(size)
    if begin is not None and not is_mark(begin):
        raise NoMark(begin)
    if not is_whole(growth, 0, GREATEST_GROWTH):
        raise NoNumber(growth)
    if not is_whole(keep, 0, GREATEST_KEEP):
        raise NoNumber(keep)
    if at is not None and not is_name(at):
        raise NoName(at)
    if (size, begin) in [other[1:3] for other in ahead]:
        raise Twice(name)


def run_key(run):
    """What runs are put in order by: of two keys Python orders that of the run ahead first."""
    _, size, begin, _, _, _ = run
    # The empty list stands ahead of the key of each mark, as the begin None does of all marks.
    if begin is None:
        return (size, [])
    return (size, mark_key(begin))
