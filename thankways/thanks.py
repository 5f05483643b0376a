"""Least thanks: how much more one who goes must thank one who stays, so that this one has an amount."""

from thankways.comes import check_stays, store_flow, stored
from thankways.errors import NoName
from thankways.flows import amount_to, flow_behind
from thankways.fractions import is_less, lowest, minus, over, plus, times
from thankways.walking import rows_of
from thankways.webs import check_amount, check_lot, check_names, check_person, check_web, is_one_of


def least_thank(web, names, by, to, amount, *, lot=None):
    """("so",), ("at", thanks), ("any",) or ("never",): how much more by must thank to ahead of the going of names."""
    check_web(web)
    check_names(web, names)
    if not is_one_of(names, by):
        raise NoName(by)
    check_person(web, to)
    check_stays(web, names, to)
    check_amount(amount)
    check_lot(web, lot)
    return least_told(store_flow(web, lot), [name for name in names if name != by], by, to, amount)


def least_told(flow, others, by, to, amount):
    """What least_thank tells, by the flow of a web with one store, of what is known to be right."""
    # Whatever by thanks one who stays, it is not parted while the others go; so by goes last.
    behind = flow_behind(flow, others)
    there, coming = stored(behind, to), stored(behind, by)
    thanks, whole = thanks_left(behind, by, to)
    most = plus(there, coming)
    if whole[0] != 0:
        there = plus(there, over(times(coming, thanks), whole))
    if not is_less(there, amount):
        return ("so",)
    if whole[0] == 0:
        return ("never",) if is_less(most, amount) else ("any",)
    if not is_less(amount, most):
        return ("never",)
    # With T more thanks TO has most - (most - there) * whole / (whole + T).
    return ("at", over(times(whole, minus(amount, there)), minus(most, amount)))


def thanks_left(flow, by, to):
    """How much one thanks another, and all together, in a flow."""
    row, scale = flow[0][by], flow[2]
    return (amount_to(row, to, scale), lowest(sum(list(row[1].values())), row[0] * scale))


def thanking_more(web, by, to, more):
    """The web in which one thanks another for so much more."""
    thanks = {row[:2]: row[2] for row in web[2]}
    thanks[(by, to)] = plus(thanks.get((by, to), (0, 1)), more)
    return (web[0], web[1], rows_of(thanks))


def thanking_alone(web, by, to):
    """The web in which one thanks nobody but another."""
    thanks = {row[:2]: row[2] for row in web[2] if row[0] != by}
    # All that is thanked by one goes one way, so for how much does not matter.
    thanks[(by, to)] = (1, 1)
    return (web[0], web[1], rows_of(thanks))
