"""Flows: who thanks whom, and what else is parted as thanks are, in whole numbers, while people go.

A row tells how much comes to whom: (bottom, numbers), numbers a dict from those who get something to
whole numbers. A flow is (thanks, stores, scale): thanks the row of each one who is there, stores rows of
anything that people hold; divided by scale and by the row's bottom the numbers are the amounts.
"""

from thankways.deeds import CHEST
from thankways.fractions import greatest_divisor, lowest
from thankways.webs import sets_of


def whole_row(amounts):
    """The row of a dict from those who get something to fractions."""
    bottom = 1
    for amount in list(amounts.values()):
        bottom = bottom * (amount[1] // greatest_divisor(bottom, amount[1]))
    return (bottom, {to: amounts[to][0] * (bottom // amounts[to][1]) for to in amounts})


def flow_of(web, stores):
    """The flow of a web's thanks, and of stores: dicts of fractions by any keys."""
    thanks = {name: {} for name in web[0]}
    for name, to, amount in web[2]:
        thanks[name][to] = amount
    return (
        {name: whole_row(thanks[name]) for name in thanks},
        {key: whole_row(stores[key]) for key in stores},
        1,
    )


def flow_without(flow, name):
    """The flow behind the going of one who is there."""
    thanks, stores, scale = flow
    shares = thanks[name][1]
    total = sum(list(shares.values()))
    if total == 0:
        # Who thanks nobody leaves all to the chest; any number above 0 does, and this one keeps to the scale.
        shares, total = {CHEST: scale}, scale
    parting = (name, shares, total, scale)
    return (
        {who: parted(thanks[who], who, parting) for who in thanks if who != name},
        {key: parted(stores[key], None, parting) for key in stores},
        total,
    )


def parted(row, who, parting):
    """A row with what comes to one who goes parted among others, but nothing to the row's own one."""
    name, shares, total, scale = parting
    bottom, numbers = row
    left = numbers.get(name, 0)
    getters = sorted(set(numbers) | set(shares))
    # No remainder is lost here: the numbers are minors of one matrix, as in Bareiss's elimination.
    return (bottom, {
        to: (numbers.get(to, 0) * total + left * shares.get(to, 0)) // scale
        for to in getters if to not in (name, who)
    })


def flow_behind(flow, names):
    """The flow behind the going of all names."""
    for name in names:
        flow = flow_without(flow, name)
    return flow


def flows_by_sets(flow, names):
    """{set: the flow behind its going} of all rising tuples of some of names, in the turn of sets_of."""
    flows = {}
    for gone in sets_of(names):
        # A set with one name fewer always stands ahead.
        flows[gone] = flow if gone == () else flow_without(flows[gone[:-1]], gone[-1])
    return flows


def amount_to(row, to, scale):
    """What of a row comes to one, a fraction."""
    return lowest(row[1].get(to, 0), row[0] * scale)


def amounts_of(row, scale):
    """What of a row comes to each who gets some: (to, fraction), rising."""
    return [(to, amount_to(row, to, scale)) for to in sorted(row[1]) if row[1][to] > 0]
