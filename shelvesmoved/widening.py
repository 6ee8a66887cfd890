"""A volume more on the shelves of a run, and the fewest others that go to other shelves for it."""

from shelvesmoved.cutting import need_some_lengths, parts_by
from shelvesmoved.errors import NoList, NoRoom, NoRows, Taken
from shelvesmoved.shelves import are_rows, flat
from shelvesmoved.volumes import MOST_VOLUMES, are_in_order, need_volume, place_in, widths_of
from shelvesmoved.words import is_whole_from, names_of

MOST_LENGTHS = 12


def widened(lengths, rows, volume):
    """The rows with one volume more by which the fewest move, the names of these, and a table that shows it."""
    need_widening(lengths, rows, volume)
    volumes = with_one_more(rows, volume)
    elder = elder_shelves(rows)
    table = fewest_moves(lengths, volumes, elder)
    if table[-1][-1] is None:
        raise NoRoom(volume[0])
    fresh = parts_by(volumes, ends_in(table, lengths, volumes, elder))
    return (fresh, moved_names(fresh, elder), table)


def shows_widened(lengths, rows, volume, thing):
    """Whether a thing shows how few move."""
    need_widening(lengths, rows, volume)
    if not isinstance(thing, tuple) or len(thing) != 3:
        return False
    fresh, names, table = thing
    volumes = with_one_more(rows, volume)
    elder = elder_shelves(rows)
    if not isinstance(fresh, list) or not are_lists(fresh) or not are_rows_over(fresh, lengths):
        return False
    if flat(fresh) != volumes or not isinstance(names, list) or names != moved_names(fresh, elder):
        return False
    if not is_table(table, len(lengths), len(volumes)) or table[0][0] != 0 or table[-1][-1] != len(names):
        return False
    steps = [(table[shelf], table[shelf + 1], spans_on(shelf, lengths, volumes, elder))
             for shelf in range(len(lengths))]
    return all([holds_on(ahead, behind, spans) for ahead, behind, spans in steps])


def holds_on(ahead, behind, spans):
    """Whether the numbers behind a shelf are no greater than what the numbers ahead of it let be."""
    for low, high, moves in spans:
        if ahead[low] is not None and (behind[high] is None or behind[high] > ahead[low] + moves):
            return False
    return True


def fewest_moves(lengths, volumes, elder):
    """The table: for each number of first shelves and of first volumes the least number that move, or None."""
    table = [[0] + [None] * len(volumes)]
    for shelf in range(len(lengths)):
        ahead = table[-1]
        behind = [None] * (len(volumes) + 1)
        for low, high, moves in spans_on(shelf, lengths, volumes, elder):
            if ahead[low] is not None and (behind[high] is None or behind[high] > ahead[low] + moves):
                behind[high] = ahead[low] + moves
        table.append(behind)
    return table


def ends_in(table, lengths, volumes, elder):
    """The ends of the shelves by which as few move as the table tells, found from the last shelf on."""
    ends = []
    end = len(volumes)
    for shelf in reversed(range(len(lengths))):
        ends.insert(0, end)
        ahead = table[shelf]
        least = table[shelf + 1][end]
        begins = [low for low, high, moves in spans_on(shelf, lengths, volumes, elder)
                  if high == end and ahead[low] is not None and ahead[low] + moves == least]
        end = begins[0]
    return ends


def spans_on(shelf, lengths, volumes, elder):
    """All (low, high, moves): the volumes from low on below high fit on the shelf, and so many of them move there."""
    spans = []
    for low in range(len(volumes) + 1):
        spans.append((low, low, 0))
        room = lengths[shelf]
        moves = 0
        for high in range(low + 1, len(volumes) + 1):
            name, _, _, width = volumes[high - 1]
            room -= width
            if room < 0:
                break
            if moves_on(shelf, name, elder):
                moves += 1
            spans.append((low, high, moves))
    return spans


def moves_on(shelf, name, elder):
    """Whether a volume moves where it stands on this shelf; the one that comes stood on none, and doesn't."""
    return elder.get(name, shelf) != shelf


def moved_names(rows, elder):
    """The names of those that move, in their order."""
    return [name for shelf, row in enumerate(rows) for name in names_of(row) if moves_on(shelf, name, elder)]


def elder_shelves(rows):
    """A dict from the names of the volumes to the places of the shelves on which they stand."""
    return {name: shelf for shelf, row in enumerate(rows) for name in names_of(row)}


def with_one_more(rows, volume):
    """The volumes of rows, in order, with one more among them."""
    volumes = flat(rows)
    volumes.insert(place_in(volume, volumes), volume)
    return volumes


def is_table(thing, shelves, many):
    """Whether a thing is lists for each number of shelves, with a number or None for each number of volumes."""
    if not isinstance(thing, list) or len(thing) != shelves + 1 or not are_lists(thing):
        return False
    if not all([len(row) == many + 1 for row in thing]):
        return False
    return all([number is None or is_whole_from(number, 0) for number in flat(thing)])


def are_lists(things):
    return all([isinstance(thing, list) for thing in things])


def are_rows_over(rows, lengths):
    """Whether things are rows of volumes in order that fit on shelves of these lengths."""
    if not are_rows(rows, len(lengths)) or not are_in_order(flat(rows)):
        return False
    return all([sum(widths_of(row)) <= length for row, length in zip(rows, lengths)])


def need_widening(lengths, rows, volume):
    """Refuses what are no lengths, no rows over them, and what is no volume that can come."""
    need_some_lengths(lengths)
    if len(lengths) > MOST_LENGTHS:
        raise NoList(lengths)
    if not are_rows_over(rows, lengths) or len(flat(rows)) > MOST_VOLUMES:
        raise NoRows(rows)
    need_volume(volume)
    if volume[0] in names_of(flat(rows)):
        raise Taken(volume[0])
