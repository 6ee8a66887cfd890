"""All refusals of this package, each a class of its own straight under ShelvesError."""

# The texts don't show what was found: it may be any thing, of any length. Who needs it reads the field.


class ShelvesError(ValueError):
    """Any refusal, made of one text."""

    def __init__(self, text):
        ValueError.__init__(self, text)


class NoName(ShelvesError):
    """What was found is no name."""

    def __init__(self, found):
        ShelvesError.__init__(self, "this is no name")
        self.found = found


class NoMark(ShelvesError):
    """What was found is no mark, or no parts of one."""

    def __init__(self, found):
        ShelvesError.__init__(self, "this is no mark")
        self.found = found


class NoNumber(ShelvesError):
    """What was found is no whole number within its bounds."""

    def __init__(self, found):
        ShelvesError.__init__(self, "this is no number that may stand here")
        self.found = found


class NoVolume(ShelvesError):
    """What was found is no volume."""

    def __init__(self, found):
        ShelvesError.__init__(self, "this is no volume")
        self.found = found


class NoRun(ShelvesError):
    """What was found is no run, or no runs."""

    def __init__(self, found):
        ShelvesError.__init__(self, "this is no run")
        self.found = found


class NoShelf(ShelvesError):
    """What was found is no shelf, or no shelves."""

    def __init__(self, found):
        ShelvesError.__init__(self, "this is no shelf")
        self.found = found


class NoRows(ShelvesError):
    """What was found is no rows."""

    def __init__(self, found):
        ShelvesError.__init__(self, "these are no rows")
        self.found = found


class NoText(ShelvesError):
    """What was found, the number of a line, can't be read."""

    def __init__(self, found):
        ShelvesError.__init__(self, "this text can't be read")
        self.found = found


class NoLine(ShelvesError):
    """What was found is no line that a desk is told."""

    def __init__(self, found):
        ShelvesError.__init__(self, "this is no line")
        self.found = found


class NoCart(ShelvesError):
    """What was found is no number of a cart."""

    def __init__(self, found):
        ShelvesError.__init__(self, "this is no cart")
        self.found = found


class NoList(ShelvesError):
    """What was found is no list that may stand here."""

    def __init__(self, found):
        ShelvesError.__init__(self, "this is no list that may stand here")
        self.found = found


class Unknown(ShelvesError):
    """What was found is no name that is known here."""

    def __init__(self, found):
        ShelvesError.__init__(self, "this is not known here")
        self.found = found


class Taken(ShelvesError):
    """What was found is a name that stands already."""

    def __init__(self, found):
        ShelvesError.__init__(self, "this name is taken")
        self.found = found


class TooMany(ShelvesError):
    """So many are more than there may be."""

    def __init__(self, count):
        ShelvesError.__init__(self, "these are too many")
        self.count = count


class Twice(ShelvesError):
    """What was found, a run, has another one's size and begin."""

    def __init__(self, found):
        ShelvesError.__init__(self, "another run begins there")
        self.found = found


class Outside(ShelvesError):
    """What was found lies outside of its bounds."""

    def __init__(self, found):
        ShelvesError.__init__(self, "this lies outside")
        self.found = found


class Alone(ShelvesError):
    """What was found, a run, has none of its size behind it."""

    def __init__(self, found):
        ShelvesError.__init__(self, "no run to join stands behind this one")
        self.found = found


class TooLow(ShelvesError):
    """What was found, a volume, is higher than the shelf."""

    def __init__(self, found, shelf):
        ShelvesError.__init__(self, "the shelf is too low")
        self.found = found
        self.shelf = shelf


class NoRoom(ShelvesError):
    """There is no room, as what was found tells."""

    def __init__(self, found):
        ShelvesError.__init__(self, "there is no room")
        self.found = found


class TooWide(ShelvesError):
    """What was found, a width, is more than a cart bears."""

    def __init__(self, found):
        ShelvesError.__init__(self, "this is too wide")
        self.found = found


class Broken(ShelvesError):
    """What was found, a volume, would break the order."""

    def __init__(self, found):
        ShelvesError.__init__(self, "the order would be broken")
        self.found = found


class Lost(ShelvesError):
    """What was found, a volume, belongs to no run."""

    def __init__(self, found):
        ShelvesError.__init__(self, "this belongs to no run")
        self.found = found


class Crossed(ShelvesError):
    """What was found, a run, would begin ahead of where it may."""

    def __init__(self, found):
        ShelvesError.__init__(self, "this run would begin too early")
        self.found = found


class Unlike(ShelvesError):
    """What was found is unlike what it has to match."""

    def __init__(self, found):
        ShelvesError.__init__(self, "this is unlike what it has to match")
        self.found = found


class Away(ShelvesError):
    """The cart is at the other house."""

    def __init__(self, cart):
        ShelvesError.__init__(self, "the cart is at the other house")
        self.cart = cart


class Loaded(ShelvesError):
    """A load is on the cart already."""

    def __init__(self, cart):
        ShelvesError.__init__(self, "a load is on the cart")
        self.cart = cart


class Empty(ShelvesError):
    """No load is on the cart."""

    def __init__(self, cart):
        ShelvesError.__init__(self, "no load is on the cart")
        self.cart = cart


class NoLoad(ShelvesError):
    """No load waits."""

    def __init__(self):
        ShelvesError.__init__(self, "no load waits")


class Out(ShelvesError):
    """What was found, a volume, is out."""

    def __init__(self, found):
        ShelvesError.__init__(self, "this is out")
        self.found = found


class NotOut(ShelvesError):
    """What was found, a volume, isn't out."""

    def __init__(self, found):
        ShelvesError.__init__(self, "this is not out")
        self.found = found
