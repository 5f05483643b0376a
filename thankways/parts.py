"""Parts by sets: which goings together bring one how much, and the merit of each who goes."""

from thankways.comes import amounts_by_sets, check_coming
from thankways.fractions import lowest, sum_of


def parts(web, names, to, *, lot=None):
    """The tuple of (set, amount), amounts above 0, that make up what one has behind any goings."""
    check_coming(web, names, to, lot)
    told = amounts_by_sets(web, names, to, lot)
    rows = [(gone, part_of(gone, told)) for gone, amount in told]
    return tuple([row for row in rows if row[1][0] != 0])


def part_of(names, told):
    """The part by a set: by turns added and taken off, what one has behind the going of each set within it."""
    return sum_of([
        signed(amount, len(names) - len(gone)) for gone, amount in told if all([name in names for name in gone])
    ])


def signed(amount, many):
    """An amount, below 0 for an odd number."""
    return (amount[0] if many % 2 == 0 else -amount[0], amount[1])


def merits(web, names, to, *, lot=None):
    """For each of names (name, amount): what one wins when it goes, in the mean over all turns of going."""
    check_coming(web, names, to, lot)
    told = amounts_by_sets(web, names, to, lot)
    return tuple([(name, merit_of(name, len(names), told)) for name in names])


def merit_of(name, many, told):
    """The merit of one of many who go."""
    rows = []
    for gone, amount in told:
        if name in gone:
            part = turns_part(len(gone) - 1, many)
            rows.append(lowest(amount[0] * part[0], amount[1] * part[1]))
        else:
            part = turns_part(len(gone), many)
            rows.append(lowest(-amount[0] * part[0], amount[1] * part[1]))
    return sum_of(rows)


def turns_part(ahead, many):
    """Of all turns in which many may go, the part in which just certain ones, so many, go ahead of one."""
    return (factorial(ahead) * factorial(many - 1 - ahead), factorial(many))


def factorial(number):
    """In how many turns so many may go."""
    turns = 1
    for factor in range(1, number + 1):
        turns = turns * factor
    return turns
