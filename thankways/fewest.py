"""The fewest goings that bring one an amount, and the most that some goings bring."""

from thankways.comes import amounts_by_sets
from thankways.errors import NoMany
from thankways.fractions import is_less, is_whole
from thankways.webs import check_amount, check_lot, check_person, check_web, others_of


def amounts_of_others(web, to, lot):
    """For each rising tuple of others, the fewer ahead, then rising: (tuple, what one has behind it)."""
    return amounts_by_sets(web, others_of(web, to), to, lot)


def fewest(web, to, amount, *, lot=None):
    """(names, has): the fewest others whose going lets one have an amount, and what it has then; or None."""
    check_web(web)
    check_person(web, to)
    check_amount(amount)
    check_lot(web, lot)
    for row in amounts_of_others(web, to, lot):
        if not is_less(row[1], amount):
            return row
    return None


def most(web, to, many, *, lot=None):
    """(names, has): the most that one can have by at most many goings, and the fewest that bring it."""
    check_web(web)
    check_person(web, to)
    if not is_whole(many) or many < 0:
        raise NoMany(many)
    check_lot(web, lot)
    best = ((), (0, 1))
    for row in amounts_of_others(web, to, lot):
        if len(row[0]) <= many and is_less(best[1], row[1]):
            best = row
    return best
