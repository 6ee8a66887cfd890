"""Loads, by how much goes together, and the fewest carts by which they go within their days."""

from shelvesmoved.cutting import end_behind, last_end, need_widths
from shelvesmoved.errors import NoList, NoNumber, Outside, TooWide, Unlike
from shelvesmoved.runs import MOST_RUNS
from shelvesmoved.words import are_whole, is_whole, is_whole_from

GREATEST_CAPACITY = 999
MOST_LOADS = 60
MOST_DAYS = 60


def loads(groups, capacity):
    """For each group the ends of its loads, as few as can be."""
    need_groups(groups, capacity)
    return [load_ends(group, capacity) for group in groups]


def shows_loads(groups, capacity, thing):
    """Whether a thing is the list of lists that loads tells."""
    told = loads(groups, capacity)
    return isinstance(thing, list) and all([is_list_of_wholes(ends) for ends in thing]) and thing == told


def days_left(counts, windows, days):
    """For each run the first and the last day on which its loads can go in their order, None without loads."""
    need_days(counts, windows, days)
    return left_by_order(counts, windows)


def fewest_carts(counts, windows, days):
    """The fewest carts by which all loads go, their days, and a paper that shows it; or one that they never go."""
    need_days(counts, windows, days)
    crossed = crossed_runs(counts, windows)
    if crossed != []:
        return ("never", crossed[0])
    if sum(counts) == 0:
        return ("carts", 0, [], None)
    left = left_by_order(counts, windows)
    spans = [(begin, end) for begin in range(1, days + 1) for end in range(begin, days + 1)]
    many = max([carts_for(counts, left, span) for span in spans])
    papers = [span for span in spans if carts_for(counts, left, span) == many]
    return ("carts", many, earliest_days(counts, left, many), papers[0])


def shows_carts(counts, windows, days, many, schedule, paper):
    """Whether things show how few carts do."""
    need_days(counts, windows, days)
    if sum(counts) == 0:
        return is_whole(many, 0, 0) and isinstance(schedule, list) and schedule == [] and paper is None
    if not is_whole_from(many, 1) or not is_schedule(schedule, counts, windows, days):
        return False
    if max([schedule.count(day) for day in schedule]) > many:
        return False
    if not is_span(paper, days):
        return False
    # No more loads than these days take by one cart less: then the paper shows nothing.
    return carts_for(counts, left_by_order(counts, windows), paper) >= many


def shows_never(counts, windows, days, paper):
    """Whether a thing shows that the loads can't go, by whatever many carts."""
    need_days(counts, windows, days)
    if not isinstance(paper, tuple) or not are_whole(paper, 0, MOST_RUNS):
        return False
    return paper in crossed_runs(counts, windows)


def load_ends(widths, capacity):
    """The ends of the loads of a group; none of its widths is greater than the capacity."""
    ends = []
    while last_end(ends) < len(widths):
        ends.append(end_behind(widths, last_end(ends), capacity))
    return ends


def left_by_order(counts, windows):
    """For each run the days that the windows of the runs ahead of it and behind it leave it."""
    loaded = loaded_runs(counts)
    told = []
    for place, count in enumerate(counts):
        if count == 0:
            told.append(None)
        else:
            first = max([windows[other][0] for other in loaded if other <= place])
            last = min([windows[other][1] for other in loaded if other >= place])
            told.append((first, last))
    return told


def crossed_runs(counts, windows):
    """All (one, other) of which the one, ahead, can't go as early as the other has to; by the other, then the one."""
    loaded = loaded_runs(counts)
    pairs = [(one, other) for other in loaded for one in loaded if one < other]
    return [(one, other) for one, other in pairs if windows[one][0] > windows[other][1]]


def loaded_runs(counts):
    """The places of the runs that have loads."""
    return [place for place, count in enumerate(counts) if count > 0]


def carts_for(counts, left, span):
    """The fewest carts by which those loads go that have to go within these days, both counted."""
    begin, end = span
    within = [window is not None and begin <= window[0] and window[1] <= end for window in left]
    many = sum([count for count, inside in zip(counts, within) if inside])
    days = end - begin + 1
    return (many + days - 1) // days


def earliest_days(counts, left, many):
    """For each load the earliest day on which it can go by so many carts."""
    schedule = []
    for count, window in zip(counts, left):
        for _ in range(count):
            schedule.append(earliest_day(schedule, window[0], many))
    return schedule


def earliest_day(schedule, first, many):
    """The earliest day of the next load, from the first one on on which it may go."""
    if schedule == []:
        return first
    day = max(schedule[-1], first)
    if schedule.count(day) == many:
        return day + 1
    return day


def is_schedule(thing, counts, windows, days):
    """Whether a thing is a list of a day for each load, in order, each within its run's window."""
    if not isinstance(thing, list) or not are_whole(thing, 1, days) or len(thing) != sum(counts):
        return False
    spans = [window for count, window in zip(counts, windows) for _ in range(count)]
    return thing == sorted(thing) and all([first <= day <= last for day, (first, last) in zip(thing, spans)])


def is_span(thing, days):
    """Whether a thing is a tuple of two days, the first one not behind the other."""
    if not isinstance(thing, tuple) or len(thing) != 2:
        return False
    begin, end = thing
    return is_whole(begin, 1, days) and is_whole(end, begin, days)


def is_list_of_wholes(thing):
    return isinstance(thing, list) and all([is_whole_from(number, 0) for number in thing])


def need_groups(groups, capacity):
    """Refuses what are no groups, no capacity, and a width that is greater than the capacity."""
    if not isinstance(groups, (list, tuple)) or len(groups) > MOST_RUNS:
        raise NoList(groups)
    for group in groups:
        need_widths(group)
    need_capacity(capacity)
    for group in groups:
        need_narrow(group, capacity)


def need_capacity(capacity):
    if not is_whole(capacity, 1, GREATEST_CAPACITY):
        raise NoNumber(capacity)


def need_narrow(widths, capacity):
    """Refuses the first width that is greater than the capacity."""
    for width in widths:
        if width > capacity:
            raise TooWide(width)


def need_days(counts, windows, days):
    """Refuses what are no counts, no windows, no number of days, and what don't belong together."""
    if not are_whole(counts, 0, MOST_LOADS) or len(counts) > MOST_RUNS:
        raise NoList(counts)
    if not isinstance(windows, (list, tuple)) or len(windows) > MOST_RUNS:
        raise NoList(windows)
    if not all([is_span(window, MOST_DAYS) for window in windows]):
        raise NoList(windows)
    if not is_whole(days, 1, MOST_DAYS):
        raise NoNumber(days)
    if len(windows) != len(counts):
        raise Unlike(windows)
    for window in windows:
        if window[1] > days:
            raise Outside(window)
