"""What comes: what one has behind the going of others."""

from thankways.deeds import CHEST
from thankways.errors import NoName
from thankways.flows import amount_to, flow_behind, flow_of, flows_by_sets
from thankways.webs import amount_held, check_holder, check_lot, check_names, check_web


def has(web, names, to, *, lot=None):
    """What one who stays, or the chest, has of a lot, or of all, behind the going of names."""
    check_coming(web, names, to, lot)
    return amount_behind(web, names, to, lot)


def check_coming(web, names, to, lot):
    """Refuse what is no web, names of its people, one who stays or the chest, and a lot or None."""
    check_web(web)
    check_names(web, names)
    check_stays(web, names, to)
    check_lot(web, lot)


def check_stays(web, names, to):
    """Refuse what is neither one of the people who stay nor the chest."""
    check_holder(web, to)
    if to in names:
        raise NoName(to)


def store_flow(web, lot):
    """The flow of a web with one store: of each holder what it has of a lot, or of all."""
    holders = list(web[0]) + [CHEST]
    return flow_of(web, {"store": {holder: amount_held(web, holder, lot) for holder in holders}})


def stored(flow, to):
    """What one has of the store of a flow."""
    return amount_to(flow[1]["store"], to, flow[2])


def amount_behind(web, names, to, lot):
    """What has tells, of what is known to be right."""
    return stored(flow_behind(store_flow(web, lot), names), to)


def amounts_by_sets(web, names, to, lot):
    """For each rising tuple of some of names, the fewer ahead, then rising: (tuple, what one has behind it)."""
    flows = flows_by_sets(store_flow(web, lot), names)
    return [(gone, stored(flows[gone], to)) for gone in flows]
