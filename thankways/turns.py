"""Books turned about: which neighbours may be exchanged, and whom a deed touches."""

from thankways.deeds import check_book, check_place
from thankways.walking import walked, webs_along


def turns(book):
    """The rising tuple of all numbers k, so that the book with deeds k and k + 1 exchanged makes the same web."""
    check_book(book)
    webs = webs_along(book)
    return tuple([number for number in range(len(book) - 1) if may_turn(book, webs, number)])


def may_turn(book, webs, number):
    """Tell whether a book stands and makes the same web with a deed and the next one exchanged."""
    turned = (book[number + 1], book[number]) + book[number + 2:]
    others, failed = walked(turned, webs[number])
    return failed is None and others[-1] == webs[-1]


def touched(book, number):
    """The rising tuple of all whose standing is otherwise in the web of the book without a deed; or None."""
    check_book(book)
    webs = webs_along(book)
    check_place(number, len(book))
    others, failed = walked(book[number + 1:], webs[number])
    if failed is not None:
        return None
    return touched_names(webs[-1], others[-1])


def touched_names(web, other):
    """The rising tuple of all who are there, hold or thank others otherwise in one web than in another."""
    rows = sorted(set(standing(web)) ^ set(standing(other)))
    return tuple(sorted({row[0] for row in rows}))


def standing(web):
    """A row for each one's being there, holding and thanking, the one's name first."""
    there = [(name, "there") for name in web[0]]
    # A lot may be called as somebody is, so that the word behind the name must tell which it is.
    has = [(holder, "has", lot, amount) for holder, lot, amount in web[1]]
    return there + has + [(name, "thanks", to, amount) for name, to, amount in web[2]]
