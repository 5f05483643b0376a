"""Goings: the web behind the going of some of its people."""

from thankways.flows import amounts_of, flow_behind, flow_of
from thankways.webs import check_names, check_web, lots_of


def after(web, names):
    """The web behind the going of names, in whatever turn they go."""
    check_web(web)
    check_names(web, names)
    return web_behind(web, names)


def web_behind(web, names):
    """What after tells, of what is known to be right."""
    thanks, stores, scale = flow_behind(flow_of(web, stores_of(web, lots_of(web))), names)
    goods = [(to, lot, amount) for lot in stores for to, amount in amounts_of(stores[lot], scale)]
    thankings = [(name, to, amount) for name in thanks for to, amount in amounts_of(thanks[name], scale)]
    people = [name for name in web[0] if name not in names]
    return (tuple(people), tuple(sorted(goods)), tuple(sorted(thankings)))


def stores_of(web, lots):
    """For each of lots, all of a web's among them, who holds how much of it."""
    stores = {lot: {} for lot in lots}
    for holder, lot, amount in web[1]:
        stores[lot][holder] = amount
    return stores
