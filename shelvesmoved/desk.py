"""A desk that is told lines, and answers each with a text."""

from shelvesmoved.casetext import show_case, show_house
from shelvesmoved.desklines import read_line
from shelvesmoved.errors import NoLine, ShelvesError
from shelvesmoved.looks import most_sought, sought
from shelvesmoved.moving import Move
from shelvesmoved.plans import most_years, planned
from shelvesmoved.runs import Scheme
from shelvesmoved.shelves import House, house_of, need_shelves
from shelvesmoved.stock import Stock
from shelvesmoved.words import names_of, spot_of

NONE = "none"
OK = "ok"
REFUSED = "refused"


def shelf_line(desk, *shelf):
    shelves = desk._shelves + [shelf]
    need_shelves(shelves)
    desk._shelves = shelves
    return OK


def run_line(desk, *run):
    desk._scheme = Scheme(desk._scheme.runs() + [run])
    return OK


def split_line(desk, name, fresh, mark):
    desk._scheme = desk._scheme.split(name, fresh, mark)
    return OK


def join_line(desk, name):
    desk._scheme = desk._scheme.joined(name)
    return OK


def volume_line(desk, *volume):
    return str(desk._stock.put_in(volume))


def drop_line(desk, name):
    desk._stock.drop(name)
    if desk._old.where(name) is not None:
        desk._old.take(name)
    return OK


def widen_line(desk, name, width):
    # Both are tried in copies, so that nothing is changed where the shelf in the old house would be overfull.
    stock = desk._stock.copied()
    house = desk._old.copied()
    elder = stock.widen(name, width)
    found = house.where(name)
    if found is not None:
        house.take(name)
        house.stand(found[0], stock.volume(name))
    desk._stock = stock
    desk._old = house
    return str(elder)


def old_line(desk, *shelf):
    desk._old = house_of(desk._old.shelves() + [shelf], desk._old.rows() + [[]])
    return OK


def stand_line(desk, shelf, name):
    volume = desk._stock.volume(name)
    return str(desk._old.stand(shelf, volume))


def lift_line(desk, name):
    desk._old.take(name)
    return OK


def plan_line(desk, years):
    return keep_plan(desk, years, False)


def even_line(desk, years):
    return keep_plan(desk, years, True)


def keep_plan(desk, years, even):
    """Makes the plan of the case as it stands, and tells how many shelves it uses."""
    desk._plan = planned(desk._scheme, desk._stock, desk._shelves, years, even)
    desk._move = None
    return str(desk._plan.used())


def runs_line(desk):
    return in_words(desk._scheme.names())


def names_line(desk):
    return in_words(desk._stock.names())


def lost_line(desk):
    return in_words(names_of(desk._scheme.lost(desk._stock)))


def alike_line(desk, name):
    return in_words(names_of(desk._stock.alike(name)))


def of_line(desk, name):
    run = desk._scheme.run(name)
    return in_words(names_of(desk._scheme.parted(desk._stock)[run[0]]))


def total_line(desk):
    return str(desk._stock.total())


def most_line(desk, years):
    most = most_years(desk._scheme, desk._stock, desk._shelves, years)
    if most is None:
        return NONE
    return str(most)


def text_line(desk):
    return on_one_line(show_case(desk._shelves, desk._scheme, desk._stock))


def house_line(desk):
    return on_one_line(show_house(desk._old))


def move_line(desk, capacity, carts):
    desk._move = Move(desk._old, desk._plan, capacity, carts)
    return str(len(desk._move.loads()))


def told_line(desk):
    runs = [run_in_words(name, shelves, gap, fills) for name, shelves, gap, fills in desk._plan.told()]
    if runs == []:
        return NONE
    return " / ".join(runs)


def run_in_words(name, shelves, gap, fills):
    """What a plan tells of a run."""
    year = "never"
    if fills is not None:
        year = str(fills)
    return " ".join([name, str(gap), year] + shelves)


def row_line(desk, shelf):
    rows = desk._plan.rows()
    _, volumes = rows[spot_of(shelf, rows)]
    return in_words(names_of(volumes))


def load_line(desk, cart):
    return in_words(desk._move.load(cart))


def unload_line(desk, cart):
    return in_words(desk._move.unload(cart))


def drive_line(desk, cart):
    return desk._move.drive(cart)


def ask_line(desk, name):
    return in_words(desk._move.ask(name))


def back_line(desk, name):
    return in_words(desk._move.back(name))


def where_line(desk, name):
    return in_words(desk._move.where(name))


def find_line(desk, size, mark, name):
    looks, found = sought(desk._move, size, mark, name)
    many = sum([len(places) for _, places in looks])
    if found is None:
        return f"{many} {NONE}"
    return f"{many} {in_words(found)}"


def looks_line(desk):
    return str(most_sought(desk._move))


def left_line(desk):
    return str(desk._move.left())


def out_line(desk):
    return in_words(names_of(desk._move.out()))


def cart_line(desk, cart):
    return f"{desk._move.cart_at(cart)} {in_words(names_of(desk._move.on_cart(cart)))}"


def ended_line(desk):
    if desk._move.ended():
        return "yes"
    return "no"


def in_words(things):
    """Things with one blank between any two."""
    if len(things) == 0:
        return NONE
    return " ".join([str(thing) for thing in things])


def on_one_line(text):
    """A text of lines in one line."""
    if text == "":
        return NONE
    return text.replace("\n", " / ")


def need_there(thing, line):
    """Refuses a line that asks for a plan or a move where there is none."""
    if thing is None:
        raise NoLine(line)


# Behind each of these there is no plan and no move any more.
CHANGES = {
    "shelf": shelf_line,
    "run": run_line,
    "split": split_line,
    "join": join_line,
    "volume": volume_line,
    "drop": drop_line,
    "widen": widen_line,
    "old": old_line,
    "stand": stand_line,
    "lift": lift_line,
}

# These ask for neither a plan nor a move.
OF_CASE = {
    "plan": plan_line,
    "even": even_line,
    "runs": runs_line,
    "names": names_line,
    "lost": lost_line,
    "alike": alike_line,
    "of": of_line,
    "total": total_line,
    "most": most_line,
    "text": text_line,
    "house": house_line,
}

# These ask for a plan.
OF_PLAN = {
    "move": move_line,
    "told": told_line,
    "row": row_line,
}

# These ask for a move.
OF_MOVE = {
    "load": load_line,
    "unload": unload_line,
    "drive": drive_line,
    "ask": ask_line,
    "back": back_line,
    "where": where_line,
    "find": find_line,
    "looks": looks_line,
    "left": left_line,
    "out": out_line,
    "cart": cart_line,
    "ended": ended_line,
}


class Desk:
    """Shelves, runs, a stock and an old house, and perhaps a plan of them and a move by it."""

    def __init__(self):
        self._shelves = []
        self._scheme = Scheme([])
        self._stock = Stock()
        self._old = House([])
        self._plan = None
        self._move = None

    def say(self, line):
        """Does what a line says, and tells the answer."""
        told = read_line(line)
        word = told[0]
        things = told[1:]
        if word in CHANGES:
            return self._change(word, things)
        if word in OF_CASE:
            action = OF_CASE[word]
        elif word in OF_PLAN:
            need_there(self._plan, line)
            action = OF_PLAN[word]
        else:
            need_there(self._move, line)
            action = OF_MOVE[word]
        return action(self, *things)

    def run_lines(self, lines):
        """The answers to lines, one after the other; a line that is refused doesn't end them."""
        if not isinstance(lines, (list, tuple)):
            raise NoLine(lines)
        return [self._answer(line) for line in lines]

    def _change(self, word, things):
        """Changes the case, of which there is no plan and no move any more."""
        action = CHANGES[word]
        answer = action(self, *things)
        self._plan = None
        self._move = None
        return answer

    def _answer(self, line):
        try:
            return self.say(line)
        except ShelvesError:
            return REFUSED
