"""The refusals, each under just one of three bases.

No message shows what was handed in: it may be anything, and Python itself
refuses to write out very long numbers.
"""


class ThankError(ValueError):
    """What was handed in is not what is wanted there."""


class LostError(LookupError):
    """What was asked for is not there."""


class StandError(ArithmeticError):
    """What was handed in is well formed, but does not stand."""


class NoNumber(ThankError):
    """An argument is no number that can be used; place is which one, from 0."""

    def __init__(self, place):
        super().__init__("no number that can be used here")
        self.place = place


class NoDeed(ThankError):
    """The deed is none."""

    def __init__(self, deed):
        super().__init__("no deed")
        self.deed = deed


class NoBook(ThankError):
    """The book is none; number is the first that is no deed, or None."""

    def __init__(self, number):
        super().__init__("no book")
        self.number = number


class NoWeb(ThankError):
    """The thing is no web."""

    def __init__(self, thing):
        super().__init__("no web")
        self.thing = thing


class NoNames(ThankError):
    """The names are no rising tuple of people of the web."""

    def __init__(self, names):
        super().__init__("no rising tuple of people")
        self.names = names


class NoAmount(ThankError):
    """The amount is no fraction from 0 on."""

    def __init__(self, amount):
        super().__init__("no amount")
        self.amount = amount


class NoMany(ThankError):
    """What should tell how many is no whole number from 0 on."""

    def __init__(self, many):
        super().__init__("no whole number from 0 on")
        self.many = many


class NoText(ThankError):
    """The text cannot be read; row is the first wrong line, from 0, or None."""

    def __init__(self, row):
        super().__init__("no text that can be read")
        self.row = row


class NoRow(ThankError):
    """The row of words is none that the desk knows."""

    def __init__(self, row):
        super().__init__("no row that the desk knows")
        self.row = row


class NoName(LostError):
    """Nobody of this name is wanted here."""

    def __init__(self, name):
        super().__init__("nobody of this name")
        self.name = name


class NoLot(LostError):
    """There is no such lot."""

    def __init__(self, name):
        super().__init__("no such lot")
        self.name = name


class NoPlace(LostError):
    """Nothing has this number."""

    def __init__(self, number):
        super().__init__("nothing of this number")
        self.number = number


class NoBack(LostError):
    """There is nothing to take back."""


class Fails(StandError):
    """A deed cannot be done; number is which one, or None, and word tells why."""

    def __init__(self, number, word):
        super().__init__("a deed that cannot be done")
        self.number = number
        self.word = word


class NoMates(StandError):
    """Two webs are not of the same people."""


class TooMany(StandError):
    """There would be too many deeds; many is how many."""

    def __init__(self, many):
        super().__init__("too many deeds")
        self.many = many
