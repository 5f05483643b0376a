"""Walking through books: which deeds can be done, and the webs that they make."""

from thankways.deeds import check_book, is_deed
from thankways.errors import Fails, NoDeed
from thankways.fractions import is_less, lowest, minus, plus
from thankways.goings import web_behind
from thankways.webs import MOST_LOTS, MOST_PEOPLE, check_web, is_held_by, is_one_of, lots_of
from thankways.webs import amount_held, amount_thanked

NOBODY = ((), (), ())


def fails_at(book):
    """(number, word) of the first deed that cannot be done, or None where the book stands."""
    check_book(book)
    return walked(book, NOBODY)[1]


def web_after(web, deed):
    """The web behind a deed."""
    check_web(web)
    if not is_deed(deed):
        raise NoDeed(deed)
    word = fault(web, deed)
    if word is not None:
        raise Fails(None, word)
    return done(web, deed)


def web_of(book):
    """The web that a book makes."""
    check_book(book)
    return webs_along(book)[-1]


def webs_along(book):
    """The webs ahead of all deeds of what is known to be a book, and the last one's; refused if it doesn't stand."""
    webs, failed = walked(book, NOBODY)
    if failed is not None:
        raise Fails(failed[0], failed[1])
    return webs


def walked(deeds, web):
    """The webs from one on along all deeds that can be done, and (number, word) of the first that can't, or None."""
    webs = [web]
    for number, deed in enumerate(deeds):
        word = fault(webs[-1], deed)
        if word is not None:
            return (webs, (number, word))
        webs.append(done(webs[-1], deed))
    return (webs, None)


def fault(web, deed):
    """The word by which a deed cannot be done, or None."""
    if deed[0] == "come" and deed[1] in web[0]:
        return "there"
    if lacks_somebody(web, deed):
        return "nobody"
    if lot_is_wrong(web, deed):
        return "lot"
    if wants_more(web, deed):
        return "less"
    if finds_it_full(web, deed):
        return "full"
    return None


def lacks_somebody(web, deed):
    """Tell whether somebody is wanted who isn't there."""
    if deed[0] == "come":
        return False
    if not is_one_of(web[0], deed[1]):
        return True
    return deed[0] in ("give", "hand", "forget") and not is_held_by(web[0], deed[2])


def lot_is_wrong(web, deed):
    """Tell whether a lot that should be new stands with somebody, or one that should be there with nobody."""
    if deed[0] == "bring":
        return deed[2] in lots_of(web)
    return deed[0] == "hand" and deed[3] not in lots_of(web)


def wants_more(web, deed):
    """Tell whether more is given or forgotten than there is."""
    if deed[0] == "give":
        there = amount_held(web, deed[1], None)
    elif deed[0] == "hand":
        there = amount_held(web, deed[1], deed[3])
    elif deed[0] == "forget":
        there = amount_thanked(web, deed[1], deed[2])
    else:
        return False
    return is_less(there, (deed[-1], 1))


def finds_it_full(web, deed):
    """Tell whether there are as many people or lots as there may be."""
    if deed[0] == "come":
        return len(web[0]) >= MOST_PEOPLE
    return deed[0] == "bring" and len(lots_of(web)) >= MOST_LOTS


def done(web, deed):
    """The web behind a deed that can be done."""
    if deed[0] == "go":
        return web_behind(web, deed[1:])
    people = list(web[0])
    goods = {row[:2]: row[2] for row in web[1]}
    thanks = {row[:2]: row[2] for row in web[2]}
    if deed[0] == "come":
        people.append(deed[1])
    elif deed[0] == "bring":
        goods[(deed[1], deed[2])] = (deed[3], 1)
    elif deed[0] == "forget":
        thanks[(deed[1], deed[2])] = minus(thanks[(deed[1], deed[2])], (deed[3], 1))
    else:
        pass_on(web, deed, goods)
        thanks[(deed[2], deed[1])] = plus(thanks.get((deed[2], deed[1]), (0, 1)), (deed[-1], 1))
    return (tuple(sorted(people)), rows_of(goods), rows_of(thanks))


def pass_on(web, deed, goods):
    """Let measures go from one to another: of a told lot, or of each lot the same part."""
    giver, getter, many = deed[1], deed[2], deed[-1]
    lot = deed[3] if deed[0] == "hand" else None
    top, bottom = amount_held(web, giver, lot)
    for row in web[1]:
        if row[0] == giver and (lot is None or row[1] == lot):
            gone = lowest(row[2][0] * many * bottom, row[2][1] * top)
            goods[(giver, row[1])] = minus(row[2], gone)
            goods[(getter, row[1])] = plus(goods.get((getter, row[1]), (0, 1)), gone)


def rows_of(amounts):
    """The rising tuple of rows of a dict from two names to fractions, without those that are 0."""
    return tuple(sorted([(pair[0], pair[1], amounts[pair]) for pair in amounts if amounts[pair][0] != 0]))
