"""A house keeps a book that stands, and wishes."""

from thankways.deeds import MOST_DEEDS, check_place, is_deed, is_name
from thankways.errors import NoBack, NoDeed, NoLot, NoName, NoPlace, TooMany
from thankways.fractions import is_less
from thankways.texts import show_book
from thankways.walking import webs_along
from thankways.webs import amount_held, check_amount


class House:
    """A book that stands, deeds of which are put in, struck and taken back, and wishes."""

    def __init__(self):
        self.deeds = ()
        # The webs ahead of all deeds and behind each, so that what is asked needn't walk the book again.
        self.webs = webs_along(())
        self.ahead = []
        self.kept = {}
        self.given = 0

    def enter(self, deed, *, at=None):
        """Put a deed in ahead of the one of a number, or last."""
        if not is_deed(deed):
            raise NoDeed(deed)
        many = len(self.deeds)
        if at is None:
            place = many
        else:
            check_place(at, many + 1)
            place = at
        if many >= MOST_DEEDS:
            raise TooMany(many + 1)
        self.turn_to(self.deeds[:place] + (deed,) + self.deeds[place:])

    def strike(self, number):
        """Take out the deed of a number."""
        check_place(number, len(self.deeds))
        self.turn_to(self.deeds[:number] + self.deeds[number + 1:])

    def turn_to(self, book):
        """Keep another book in the place of the one of now, if it stands."""
        webs = webs_along(book)
        self.ahead.append(self.deeds)
        self.deeds = book
        self.webs = webs

    def back(self):
        """Take back the last deed put in or struck that isn't taken back."""
        if len(self.ahead) == 0:
            raise NoBack("nothing to take back")
        self.deeds = self.ahead.pop()
        self.webs = webs_along(self.deeds)

    def wish(self, to, amount, *, lot=None):
        """Keep the wish that somebody has an amount of a lot, or of all; its number."""
        if not is_name(to):
            raise NoName(to)
        check_amount(amount)
        if lot is not None and not is_name(lot):
            raise NoLot(lot)
        number = self.given
        self.kept[number] = (to, amount, lot)
        self.given += 1
        return number

    def unwish(self, number):
        """Drop the wish of a number."""
        check_place(number, self.given)
        if number not in self.kept:
            raise NoPlace(number)
        del self.kept[number]

    def wishes(self):
        """(number, first) of each wish: the number of the first deed behind which it is so, or None."""
        return tuple([(number, first_so(self.webs, self.kept[number])) for number in sorted(self.kept)])

    def book(self):
        """The book of now."""
        return self.deeds

    def web(self):
        """The web that the book of now makes."""
        return self.webs[-1]

    def __len__(self):
        return len(self.deeds)

    def __eq__(self, other):
        return isinstance(other, House) and self.deeds == other.deeds and self.kept == other.kept

    def __str__(self):
        return str(show_book(self.deeds))

    def __repr__(self):
        return f"House({len(self.deeds)})"


def first_so(webs, wanted):
    """The number of the first deed behind which one has what is wished, by the webs along a book; or None."""
    to, amount, lot = wanted
    for number, web in enumerate(webs[1:]):
        if to in web[0] and not is_less(amount_held(web, to, lot), amount):
            return number
    return None
