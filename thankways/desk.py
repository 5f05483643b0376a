"""A desk keeps a house by rows of words, each answered with a text."""

from thankways.checker import holds
from thankways.deeds import is_holder, is_name
from thankways.errors import NoRow
from thankways.fewest import fewest
from thankways.goings import after
from thankways.house import House
from thankways.papers import paper_has
from thankways.parts import merits
from thankways.shares import shares
from thankways.texts import read_deed, read_fraction, read_whole, show_deed, show_fraction
from thankways.thanks import least_thank
from thankways.ways import way
from thankways.webs import amount_held, held

MOST_FIGURES = 9


def read_number(word):
    """The whole number of nine figures at most that a word is, or None."""
    return read_whole(word) if len(word) <= MOST_FIGURES else None


def read_amount(word):
    """The fraction of numbers of nine figures at most that a word is, or None."""
    top, bar, bottom = word.partition("/")
    if len(top) > MOST_FIGURES or len(bottom) > MOST_FIGURES:
        return None
    return read_fraction(word)


def read_told(kind, word):
    """What a word tells where one of a kind should stand, or None."""
    if kind == "number":
        return read_number(word)
    if kind == "amount":
        return read_amount(word)
    fits = is_holder(word) if kind == "holder" else is_name(word)
    return word if fits else None


def read_all(kinds, words):
    """What words tell where one of each kind should stand, or None."""
    if len(words) != len(kinds):
        return None
    told = [read_told(kind, word) for kind, word in zip(kinds, words)]
    return None if any([thing is None for thing in told]) else told


def kinds_of(word, many):
    """The kinds of the words behind a row's first one, of which there are so many."""
    kinds = KINDS[word]
    if word in BEHIND_NAMES:
        return kinds + ("name",) * max(1, many - len(kinds))
    if word == "has" and many > 1:
        return kinds + ("name",)
    return kinds


def read_entry(words):
    """(number, deed) of the words of a deed, with the number ahead of it or None; the deed None where it is none."""
    if words[0] != "at":
        return (None, read_deed(" ".join(words)))
    number = read_number(words[1]) if len(words) > 1 else None
    return (number, None if number is None else read_deed(" ".join(words[2:])))


def show_amounts(rows):
    """Rows of a name and a fraction as a text."""
    return ", ".join([f"{name} {show_fraction(amount)}" for name, amount in rows])


def do_strike(house, told):
    """Strike a deed."""
    house.strike(told[0])
    return "ok"


def do_back(house, told):
    """Take back what was entered or struck last."""
    house.back()
    return "ok"


def tell_book(house, told):
    """The book of now."""
    return "; ".join([show_deed(deed) for deed in house.book()]) if len(house) > 0 else "none"


def tell_has(house, told):
    """What a holder has, of a lot or of all."""
    lot = told[1] if len(told) > 1 else None
    return show_fraction(held(house.web(), told[0], lot=lot))


def tell_if(house, told):
    """What each holder has behind the going of names."""
    behind = after(house.web(), tuple(told))
    holders = sorted({row[0] for row in behind[1]})
    if len(holders) == 0:
        return "none"
    return show_amounts([(holder, amount_held(behind, holder, None)) for holder in holders])


def tell_shares(house, told):
    """To whom how much comes of what each of names holds."""
    rows = shares(house.web(), tuple(told))
    return "; ".join([f"{name}: {show_shares(row)}" for name, row in zip(told, rows)])


def show_shares(row):
    """The shares of one who goes as a text."""
    return " ".join([f"{to} {show_fraction(share)}" for to, share in row])


def tell_merits(house, told):
    """What each of names brings one by going."""
    return show_amounts(merits(house.web(), tuple(told[1:]), told[0]))


def tell_way(house, told):
    """A way of a lot."""
    found = way(house.web(), told[0], told[1])
    return "none" if found is None else " ".join(found)


def tell_fewest(house, told):
    """The fewest goings that let one have an amount."""
    found = fewest(house.web(), told[0], told[1])
    if found is None:
        return "never"
    return "now" if found[0] == () else " ".join(found[0])


def tell_thank(house, told):
    """The least thanks that let one have an amount."""
    found = least_thank(house.web(), tuple(told[3:]), told[0], told[1], told[2])
    return show_fraction(found[1]) if found[0] == "at" else found[0]


def tell_paper(house, told):
    """Whether the checker takes the house's paper of what one has."""
    claim, paper = paper_has(house.web(), tuple(told[1:]), told[0])
    return "holds" if holds(claim, paper) else "no"


# What should stand behind a row's first word; a deed's words and those behind `at` are read as deeds.
KINDS = {
    "strike": ("number",),
    "back": (),
    "book": (),
    "has": ("holder",),
    "if": (),
    "shares": (),
    "merits": ("holder",),
    "way": ("name", "holder"),
    "fewest": ("holder", "amount"),
    "thank": ("name", "holder", "amount"),
    "paper": ("holder",),
}
# Behind all that stands there, these have one name or more.
BEHIND_NAMES = ("if", "shares", "merits", "thank", "paper")
ANSWERS = {
    "strike": do_strike,
    "back": do_back,
    "book": tell_book,
    "has": tell_has,
    "if": tell_if,
    "shares": tell_shares,
    "merits": tell_merits,
    "way": tell_way,
    "fewest": tell_fewest,
    "thank": tell_thank,
    "paper": tell_paper,
}


class Desk:
    """A house, and the rows of words by which it is kept and asked."""

    def __init__(self):
        self.house = House()

    def say(self, row):
        """Do what a row of words says, or tell what it asks for."""
        if not isinstance(row, str):
            raise NoRow(row)
        words = row.split(" ")
        if words[0] not in KINDS:
            at, deed = read_entry(words)
            if deed is None:
                raise NoRow(row)
            self.house.enter(deed, at=at)
            return "ok"
        told = read_all(kinds_of(words[0], len(words) - 1), words[1:])
        if told is None:
            raise NoRow(row)
        answer = ANSWERS[words[0]]
        return answer(self.house, told)
