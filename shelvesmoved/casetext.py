"""Cases and houses as texts, a line for each shelf, run and volume."""

from shelvesmoved.desklines import NO_WORD, things_in
from shelvesmoved.errors import NoText
from shelvesmoved.runs import Scheme
from shelvesmoved.shelves import house_of, need_shelves
from shelvesmoved.stock import Stock

SHELF = "shelf"
RUN = "run"
VOLUME = "volume"


def show_case(shelves, scheme, stock):
    """The text of a case: its shelves, then its runs, then its volumes."""
    need_shelves(shelves)
    lines = [line_of(SHELF, shelf) for shelf in shelves]
    lines.extend([line_of(RUN, run) for run in scheme.runs()])
    lines.extend([line_of(VOLUME, volume) for volume in stock.volumes()])
    return "\n".join(lines)


def read_case(text):
    """The shelves, the scheme and the stock that a text tells."""
    told = {SHELF: [], RUN: [], VOLUME: []}
    for number, line in enumerate(lines_of(text), start=1):
        things = things_in(line)
        if things is None or things[0] not in told:
            raise NoText(number)
        told[things[0]].append(things[1:])
    need_shelves(told[SHELF])
    scheme = Scheme(told[RUN])
    stock = Stock()
    for volume in told[VOLUME]:
        stock.put_in(volume)
    return (told[SHELF], scheme, stock)


def show_house(house):
    """The text of a house: behind each shelf the volumes on it."""
    lines = []
    for shelf, row in zip(house.shelves(), house.rows()):
        lines.append(line_of(SHELF, shelf))
        lines.extend([line_of(VOLUME, volume) for volume in row])
    return "\n".join(lines)


def read_house(text):
    """The house that a text tells."""
    shelves = []
    rows = []
    for number, line in enumerate(lines_of(text), start=1):
        things = things_in(line)
        if things is None or things[0] not in (SHELF, VOLUME):
            raise NoText(number)
        if things[0] == SHELF:
            shelves.append(things[1:])
            rows.append([])
        elif rows == []:
            raise NoText(number)
        else:
            rows[-1].append(things[1:])
    return house_of(shelves, rows)


def lines_of(text):
    """The lines of a text, none where it is without signs."""
    if not isinstance(text, str):
        raise NoText(0)
    if text == "":
        return []
    return text.split("\n")


def line_of(word, things):
    """The line that has this first word and tells these things behind it."""
    return " ".join([word] + [written(thing) for thing in things])


def written(thing):
    if thing is None:
        return NO_WORD
    return str(thing)
