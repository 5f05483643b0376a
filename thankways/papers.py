"""The house's papers: for each question the claim that is so, and a paper that shows it."""

from thankways.beside import apart
from thankways.checker import holds
from thankways.comes import amounts_by_sets, check_coming, has
from thankways.deeds import CHEST
from thankways.fewest import fewest
from thankways.flows import amount_to, flow_behind
from thankways.parts import part_of
from thankways.shares import measures_flow, stuck_of
from thankways.thanks import least_thank, thanking_alone, thanking_more
from thankways.ways import least_row, reached, reached_from, steps_to, thanked_by, way
from thankways.webs import others_of, sets_of


def paper_has(web, names, to, *, lot=None):
    """The claim and the paper of what one has behind the going of names."""
    amount = has(web, names, to, lot=lot)
    return (("has", web, names, to, lot, amount), grounds_of(web, names, to))


def grounds_of(web, names, to):
    """For each of names its share towards to, and in how many thanks it leads out of names, None if it doesn't."""
    thanks, stores, scale = flow_behind(measures_flow(web, names), names)
    steps = steps_to(web, [name for name in web[0] if name not in names] + [CHEST])
    return tuple([(amount_to(stores[name], to, scale), steps.get(name)) for name in names])


def paper_way(web, lot, to):
    """The claim and the paper of whether there is a way of a lot."""
    found = way(web, lot, to)
    if found is None:
        # Those to whom there is a way hold all of the lot and thank none but each other and the chest.
        return (("never", web, lot, to), reached(web, lot))
    return (("can", web, lot, to), found)


def paper_fewest(web, to, amount, *, lot=None):
    """The claim and the paper of how many goings let one have an amount."""
    found = fewest(web, to, amount, lot=lot)
    if found is None:
        return (("too much", web, to, lot, amount), grounds_of(web, others_of(web, to), to))
    names = found[0]
    # Each tuple of fewer is within one of just one fewer.
    cover = [gone for gone in sets_of(others_of(web, to)) if len(gone) == len(names) - 1]
    paper = (names, grounds_of(web, names, to), tuple([(gone, grounds_of(web, gone, to)) for gone in cover]))
    return (("fewest", web, to, lot, amount, len(names)), paper)


def paper_part(web, names, to, *, lot=None):
    """The claim and the paper of the part by names."""
    check_coming(web, names, to, lot)
    amount = part_of(names, amounts_by_sets(web, names, to, lot))
    return (("part", web, to, lot, names, amount), tuple([grounds_of(web, gone, to) for gone in sets_of(names)]))


def paper_thank(web, names, by, to, amount, *, lot=None):
    """The claim and the paper of the least thanks that let one have an amount."""
    told = least_thank(web, names, by, to, amount, lot=lot)
    if told[0] == "so":
        return paper_has(web, names, to, lot=lot)
    grounds = grounds_of(web, names, to)
    if told[0] == "at":
        more = grounds_of(thanking_more(web, by, to, told[1]), names, to)
        return (("thank", web, names, by, to, lot, amount, told[1]), (grounds, more, opening_of(web, names, by)))
    alone = thanking_alone(web, by, to)
    more = grounds_of(alone, names, to)
    if told[0] == "any":
        return (("any thank", web, names, by, to, lot, amount), (grounds, more, reached_from(web, [by])))
    just = has(alone, names, to, lot=lot) == amount
    opening = opening_of(web, names, by) if just else None
    return (("no thank", web, names, by, to, lot, amount), (grounds, more, opening))


def opening_of(web, names, by):
    """(row, set), by which thanks lead from by to where they don't all lead back from; there is one."""
    shut = stuck_of(web, tuple([name for name in names if name != by]))
    goals = [name for name in names if name in shut or any([to not in names for to in thanked_by(web, name)])]
    return (least_row(web, [by], goals), shut)


def paper_apart(web, other):
    """The claim and the paper of what tells two webs apart, or of their being alike; or None."""
    found = apart(web, other)
    if found is None:
        claim = ("alike", web, other)
        return (claim, None) if holds(claim, None) else None
    names, holder, lot = found
    paper = (grounds_of(web, names, holder), grounds_of(other, names, holder))
    return (("apart", web, other, names, holder, lot), paper)
