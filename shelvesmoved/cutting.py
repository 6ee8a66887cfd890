"""Rows of widths cut into shelves.

A cutting is a list of an end for each shelf: how many things stand on it and on those ahead of it together.
"""

from shelvesmoved.errors import NoList, NoNumber, NoRoom
from shelvesmoved.runs import GREATEST_KEEP
from shelvesmoved.shelves import GREATEST_LENGTH, MOST_SHELVES
from shelvesmoved.volumes import GREATEST_WIDTH, MOST_VOLUMES
from shelvesmoved.words import are_whole, is_whole

GREATEST_SPARE = 99999


def cut_fewest(widths, lengths, keep=0):
    """The ends of the fewest shelves that hold all things with a keep, or of all shelves where they don't."""
    need_row(widths, lengths, keep)
    ends = fewest_ends(widths, lengths, keep)
    if last_end(ends) < len(widths):
        return ("short", ends)
    return ("all", ends)


def shows_ends(widths, lengths, keep, ends):
    """Whether a thing is the list of ends that cut_fewest tells."""
    need_row(widths, lengths, keep)
    return are_ends(ends, len(widths)) and ends == fewest_ends(widths, lengths, keep)


def fewest_for(widths, lengths, keep, spare):
    """How many shelves hold all things with a keep and have the spare length besides, and their ends, or None."""
    need_row(widths, lengths, keep)
    if not is_whole(spare, 0, GREATEST_SPARE):
        raise NoNumber(spare)
    ends = fewest_ends(widths, lengths, keep)
    if last_end(ends) < len(widths):
        return None
    gap = sum(lengths[:len(ends)]) - sum(widths)
    others = lengths[len(ends):]
    for length in others:
        if gap >= spare:
            break
        gap += length
        ends.append(len(widths))
    if gap < spare:
        return None
    return (len(ends), ends)


def cut_spread(widths, lengths):
    """The greatest free length, the ends of a cutting that has it, and those that show that none has more."""
    need_widths(widths)
    need_some_lengths(lengths)
    ends = fewest_ends(widths, lengths, 0)
    if last_end(ends) < len(widths):
        raise NoRoom(last_end(ends))
    free = greatest_free(widths, lengths)
    ends = fewest_ends(widths, lengths, free)
    ends.extend([len(widths)] * (len(lengths) - len(ends)))
    if free == min(lengths):
        return (free, ends, None)
    return (free, ends, fewest_ends(widths, lengths, free + 1))


def shows_spread(widths, lengths, free, ends, more):
    """Whether things show how far widths spread over lengths."""
    need_widths(widths)
    need_some_lengths(lengths)
    if not is_whole(free, 0, min(lengths)):
        return False
    if not is_cutting_of_all(widths, lengths, ends) or free_length(widths, lengths, ends) < free:
        return False
    return shows_no_more(widths, lengths, free, more)


def shows_no_more(widths, lengths, free, more):
    """Whether a thing shows that no cutting has a greater free length than this one."""
    if free == min(lengths):
        return more is None
    if not are_ends(more, len(widths)) or last_end(more) == len(widths):
        return False
    return more == fewest_ends(widths, lengths, free + 1)


def is_cutting_of_all(widths, lengths, ends):
    """Whether a thing is a cutting that has all things on the shelves."""
    if not are_ends(ends, len(widths)) or len(ends) != len(lengths):
        return False
    return ends == sorted(ends) and last_end(ends) == len(widths)


def free_length(widths, lengths, ends):
    """The least length that is free on a shelf, over all shelves."""
    return min([length - sum(part) for length, part in zip(lengths, parts_by(widths, ends))])


def parts_by(row, ends):
    """What stands in a row, part by part: between each end and the one ahead of it."""
    begins = [0] + ends[:-1]
    return [row[begin:end] for begin, end in zip(begins, ends)]


def greatest_free(widths, lengths):
    """The greatest free length of a cutting that has all things on the shelves, where there is one."""
    low = 0
    # On a shelf without things its whole length is free, so that the shortest one bounds what can be.
    high = min(lengths)
    while low < high:
        middle = (low + high + 1) // 2
        if last_end(fewest_ends(widths, lengths, middle)) == len(widths):
            low = middle
        else:
            high = middle - 1
    return low


def fewest_ends(widths, lengths, keep):
    """The ends by which on shelf by shelf as many things stand as can, as far as some are left."""
    ends = []
    for length in lengths:
        begin = last_end(ends)
        if begin == len(widths):
            break
        ends.append(end_behind(widths, begin, length - keep))
    return ends


def end_behind(widths, begin, room):
    """The greatest end of a shelf with so much room on which the things from this begin on stand."""
    end = begin
    for width in widths[begin:]:
        if width > room:
            break
        room -= width
        end += 1
    return end


def last_end(ends):
    """How many things stand on all shelves together."""
    if ends == []:
        return 0
    return ends[-1]


def are_ends(thing, many):
    """Whether a thing is a list of whole numbers that ends over so many things may be."""
    return isinstance(thing, list) and are_whole(thing, 0, many)


def need_row(widths, lengths, keep):
    """Refuses what are no widths, no lengths, no keep."""
    need_widths(widths)
    need_lengths(lengths)
    if not is_whole(keep, 0, GREATEST_KEEP):
        raise NoNumber(keep)


def need_widths(widths):
    if not are_whole(widths, 1, GREATEST_WIDTH) or len(widths) > MOST_VOLUMES:
        raise NoList(widths)


def need_lengths(lengths):
    if not are_whole(lengths, 1, GREATEST_LENGTH) or len(lengths) > MOST_SHELVES:
        raise NoList(lengths)


def need_some_lengths(lengths):
    need_lengths(lengths)
    if len(lengths) == 0:
        raise NoList(lengths)
