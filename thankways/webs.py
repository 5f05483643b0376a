"""Webs: who is there, who holds how much of which lot, who thanks whom for how much."""

from thankways.deeds import CHEST, is_name
from thankways.errors import NoAmount, NoLot, NoName, NoNames, NoWeb
from thankways.fractions import is_fraction, sum_of

MOST_PEOPLE = 8
MOST_LOTS = 8


def is_web(thing):
    """Tell whether a thing of any kind is a web."""
    if not isinstance(thing, tuple) or len(thing) != 3:
        return False
    people, goods, thanks = thing
    return is_people(people) and is_goods(people, goods) and is_thanks(people, thanks)


def is_people(thing):
    """Tell whether a thing of any kind is the people of a web."""
    if not isinstance(thing, tuple):
        return False
    for place, name in enumerate(thing):
        if not person_fits(thing[:place], name):
            return False
    return True


def is_goods(people, thing):
    """Tell whether a thing of any kind is the goods of a web of these people."""
    if not isinstance(thing, tuple):
        return False
    for place, row in enumerate(thing):
        if not good_fits(people, thing[:place], row):
            return False
    return True


def is_thanks(people, thing):
    """Tell whether a thing of any kind is the thanks of a web of these people."""
    if not isinstance(thing, tuple):
        return False
    for place, row in enumerate(thing):
        if not thank_fits(people, thing[:place], row):
            return False
    return True


def person_fits(ahead, thing):
    """Tell whether a thing of any kind can be the next one behind the people ahead."""
    if not is_name(thing) or len(ahead) >= MOST_PEOPLE:
        return False
    return len(ahead) == 0 or ahead[-1] < thing


def good_fits(people, ahead, thing):
    """Tell whether a thing of any kind can be the next row behind the goods ahead."""
    if not is_amount_row(thing) or not is_held_by(people, thing[0]) or not is_name(thing[1]):
        return False
    lots = [row[1] for row in ahead] + [thing[1]]
    return len(set(lots)) <= MOST_LOTS and rises(ahead, thing)


def thank_fits(people, ahead, thing):
    """Tell whether a thing of any kind can be the next row behind the thanks ahead."""
    if not is_amount_row(thing) or not is_one_of(people, thing[0]) or not is_held_by(people, thing[1]):
        return False
    return thing[0] != thing[1] and rises(ahead, thing)


def is_amount_row(thing):
    """Tell whether a thing of any kind is a tuple of three, the last one a fraction above 0."""
    if not isinstance(thing, tuple) or len(thing) != 3:
        return False
    return is_fraction(thing[2]) and thing[2][0] > 0


def rises(ahead, row):
    """Tell whether a row is more than all rows ahead, and not of the same two names as one of them."""
    return len(ahead) == 0 or ahead[-1][:2] < row[:2]


def is_one_of(people, thing):
    """Tell whether a thing of any kind is one of the people."""
    return isinstance(thing, str) and thing in people


def is_held_by(people, thing):
    """Tell whether a thing of any kind is one of the people or the chest."""
    return is_one_of(people, thing) or (isinstance(thing, str) and thing == CHEST)


def is_names(people, thing):
    """Tell whether a thing of any kind is a rising tuple of some of the people."""
    return is_people(thing) and all([name in people for name in thing])


def others_of(web, name):
    """The people of a web but one, rising."""
    return tuple([other for other in web[0] if other != name])


def sets_of(names):
    """All rising tuples of some of rising names, () too, the fewer names ahead, then rising."""
    sets = [()]
    level = [()]
    while len(level) > 0:
        level = [gone + (name,) for gone in level for name in names if len(gone) == 0 or gone[-1] < name]
        sets.extend(level)
    return sets


def lots_of(web):
    """The lots of a web's goods, rising."""
    return sorted({row[1] for row in web[1]})


def check_web(web):
    """Refuse what is no web."""
    if not is_web(web):
        raise NoWeb(web)


def check_names(web, names):
    """Refuse what is no rising tuple of a web's people."""
    if not is_names(web[0], names):
        raise NoNames(names)


def check_person(web, name):
    """Refuse what is none of a web's people."""
    if not is_one_of(web[0], name):
        raise NoName(name)


def check_holder(web, holder):
    """Refuse what is neither one of a web's people nor the chest."""
    if not is_held_by(web[0], holder):
        raise NoName(holder)


def is_lot(web, thing):
    """Tell whether a thing of any kind is a lot of a web's goods."""
    return isinstance(thing, str) and thing in lots_of(web)


def check_lot(web, lot):
    """Refuse what is neither a lot of a web's goods nor None."""
    if lot is not None and not is_lot(web, lot):
        raise NoLot(lot)


def check_amount(amount):
    """Refuse what is no fraction from 0 on."""
    if not is_fraction(amount) or amount[0] < 0:
        raise NoAmount(amount)


def held(web, holder, *, lot=None):
    """How much a holder has of a lot, or of all lots for None."""
    check_web(web)
    check_holder(web, holder)
    check_lot(web, lot)
    return amount_held(web, holder, lot)


def amount_held(web, holder, lot):
    """What held tells, of what is known to be right."""
    return sum_of([row[2] for row in web[1] if row[0] == holder and (lot is None or row[1] == lot)])


def thanked(web, name, to):
    """How much one of the people thanks another, or the chest."""
    check_web(web)
    check_person(web, name)
    check_holder(web, to)
    return amount_thanked(web, name, to)


def amount_thanked(web, name, to):
    """What thanked tells, of what is known to be right."""
    return sum_of([row[2] for row in web[2] if row[:2] == (name, to)])
