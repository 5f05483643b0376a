"""Webs beside each other: the fewest goings that tell two webs apart."""

from thankways.deeds import CHEST
from thankways.errors import NoMates
from thankways.flows import flow_of, flows_by_sets
from thankways.goings import stores_of
from thankways.webs import check_web, lots_of


def apart(web, other):
    """(names, holder, lot): the fewest behind whose going a holder has unlike amounts of a lot in both; or None."""
    check_web(web)
    check_web(other)
    if web[0] != other[0]:
        raise NoMates("not of the same people")
    lots = sorted(set(lots_of(web)) | set(lots_of(other)))
    holders = sorted(list(web[0]) + [CHEST])
    flows = flows_by_sets(flow_of(web, stores_of(web, lots)), web[0])
    others = flows_by_sets(flow_of(other, stores_of(other, lots)), web[0])
    for gone in flows:
        for holder in holders:
            for lot in lots:
                if is_unlike(flows[gone], others[gone], lot, holder):
                    return (gone, holder, lot)
    return None


def is_unlike(flow, other, lot, holder):
    """Tell whether a holder has unlike amounts of a lot in two flows with a store for each lot."""
    bottom, numbers = flow[1][lot]
    other_bottom, other_numbers = other[1][lot]
    # Divided by the bottom and the scale the numbers are the amounts; to tell them apart no fraction need be made.
    one = numbers.get(holder, 0) * other_bottom * other[2]
    return one != other_numbers.get(holder, 0) * bottom * flow[2]
