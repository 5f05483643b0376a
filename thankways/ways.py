"""Ways: by which rows of thanks some of a lot can come to whom."""

from thankways.deeds import CHEST
from thankways.errors import NoLot
from thankways.webs import check_person, check_web, is_lot


def way(web, lot, to):
    """One of the ways of a lot to one of the people with the fewest people, of these the least; or None."""
    check_way(web, lot)
    check_person(web, to)
    return least_row(web, holders_of(web, lot), [to])


def reached(web, lot):
    """The rising tuple of all people to whom there is a way of a lot."""
    check_way(web, lot)
    return reached_from(web, holders_of(web, lot))


def check_way(web, lot):
    """Refuse what is no web, and what is no lot of its goods, None too."""
    check_web(web)
    if not is_lot(web, lot):
        raise NoLot(lot)


def holders_of(web, lot):
    """The people who hold some of a lot, rising."""
    return [row[0] for row in web[1] if row[1] == lot and row[0] != CHEST]


def thanked_by(web, name):
    """Those whom one of the people thanks, the chest too, rising."""
    return [row[1] for row in web[2] if row[0] == name]


def steps_to(web, goals):
    """{name: how many thanks lead from this one to the nearest of goals}, of all from whom some do."""
    steps = {}
    nearest = list(goals)
    many = 0
    while len(nearest) > 0:
        for name in nearest:
            steps[name] = many
        many += 1
        nearest = sorted({row[0] for row in web[2] if row[1] in nearest and row[0] not in steps})
    return steps


def least_row(web, starts, goals):
    """Of the shortest rows of thanks from one of starts to one of goals the least one; or None."""
    steps = steps_to(web, goals)
    ends = [(steps[name], name) for name in starts if name in steps]
    if len(ends) == 0:
        return None
    left, name = min(ends)
    row = [name]
    while left > 0:
        left -= 1
        row.append(min([to for to in thanked_by(web, row[-1]) if steps.get(to) == left]))
    return tuple(row)


def reached_from(web, starts):
    """The rising tuple of starts and of all people to whom thanks lead from them."""
    more = sorted({row[1] for row in web[2] if row[0] in starts and row[1] not in starts and row[1] != CHEST})
    if len(more) == 0:
        return tuple(sorted(starts))
    return reached_from(web, list(starts) + more)
