"""The checker: whether a claim is so, as its paper shows.

All is looked up in the webs and the papers alone; nothing is gone through by going.
"""

from thankways.deeds import CHEST
from thankways.fractions import is_fraction, is_less, is_whole, over, sum_of, times
from thankways.parts import part_of
from thankways.thanks import thanking_alone, thanking_more
from thankways.ways import holders_of, steps_to, thanked_by
from thankways.webs import amount_held, is_held_by, is_lot, is_names, is_one_of, is_web, others_of, sets_of


def is_tuple_of(many, thing):
    """Tell whether a thing of any kind is a tuple of so many."""
    return isinstance(thing, tuple) and len(thing) == many


def is_question(web, names, to, lot):
    """Tell whether things of any kind are a web, names, one who stays or the chest, and a lot or None."""
    if not is_web(web) or not is_names(web[0], names) or not is_held_by(web[0], to):
        return False
    return to not in names and (lot is None or is_lot(web, lot))


def is_question_of_person(web, to, lot, amount):
    """Tell whether things of any kind are a web, one of its people, a lot or None, and a fraction."""
    return is_question(web, (), to, lot) and to != CHEST and is_fraction(amount)


def is_question_of_thanks(web, names, by, to, lot, amount):
    """Tell whether things of any kind can be asked of, as least_thank is, but for the amount's being below 0."""
    return is_question(web, names, to, lot) and is_one_of(names, by) and to != CHEST and is_fraction(amount)


def are_grounds(web, names, to, thing):
    """Tell whether a thing of any kind is grounds for names and to, of a web."""
    if not is_tuple_of(len(names), thing) or not all([is_ground(row) for row in thing]):
        return False
    grounds = {name: row for name, row in zip(names, thing)}
    return all([steps_fit(web, grounds, name) and share_fits(web, grounds, name, to) for name in names])


def is_ground(thing):
    """Tell whether a thing of any kind is a tuple of a fraction and of None or a whole number from 1 on."""
    if not is_tuple_of(2, thing) or not is_fraction(thing[0]):
        return False
    return thing[1] is None or (is_whole(thing[1]) and thing[1] >= 1)


def steps_fit(web, grounds, name):
    """Tell whether the steps told of a name are by those whom it thanks."""
    steps = grounds[name][1]
    thanked = thanked_by(web, name)
    if steps is None:
        return all([to in grounds and grounds[to][1] is None for to in thanked])
    if steps == 1:
        return any([to not in grounds for to in thanked])
    return any([to in grounds and grounds[to][1] == steps - 1 for to in thanked])


def share_fits(web, grounds, name, to):
    """Tell whether the share told of a name is by those whom it thanks."""
    share, steps = grounds[name]
    if steps is None:
        return share == ((1, 1) if to == CHEST else (0, 1))
    thanks = thanks_of(web, name)
    whole = sum_of([amount for other, amount in thanks])
    comes = [times(amount, share_of(grounds, other, to)) for other, amount in thanks]
    return times(share, whole) == sum_of(comes)


def thanks_of(web, name):
    """Those whom one of the people thanks, rising: (to, amount)."""
    return [(row[1], row[2]) for row in web[2] if row[0] == name]


def share_of(grounds, one, to):
    """The share towards to of one who goes, by grounds, or of one who stays."""
    if one in grounds:
        return grounds[one][0]
    return (1, 1) if one == to else (0, 1)


def amount_by(web, names, to, lot, thing):
    """What one has behind the going of names, by a thing of any kind; None where this is no grounds for it."""
    if not are_grounds(web, names, to, thing):
        return None
    comes = [times(row[0], amount_held(web, name, lot)) for name, row in zip(names, thing)]
    return sum_of([amount_held(web, to, lot)] + comes)


def has_less(told, amount):
    """Tell whether what is told, if anything, is less than an amount."""
    return told is not None and is_less(told, amount)


def has_enough(told, amount):
    """Tell whether what is told, if anything, is an amount at least."""
    return told is not None and not is_less(told, amount)


def has_holds(told, paper):
    """Check what one has behind the going of names."""
    web, names, to, lot, amount = told
    if not is_question(web, names, to, lot) or not is_fraction(amount):
        return False
    return amount_by(web, names, to, lot, paper) == amount


def can_holds(told, paper):
    """Check that there is a way."""
    web, lot, to = told
    if not is_question_of_way(web, lot, to) or not is_row(web, web[0], paper):
        return False
    return paper[0] in holders_of(web, lot) and paper[-1] == to


def never_holds(told, paper):
    """Check that there is no way."""
    web, lot, to = told
    if not is_question_of_way(web, lot, to) or not is_names(web[0], paper) or to in paper:
        return False
    return all([name in paper for name in holders_of(web, lot)]) and is_shut(web, paper, paper + (CHEST,))


def is_question_of_way(web, lot, to):
    """Tell whether things of any kind are a web, a lot of its goods and one of its people."""
    return is_question(web, (), to, lot) and lot is not None and to != CHEST


def is_row(web, names, thing):
    """Tell whether a thing of any kind is a tuple of names, not (), each thanking the next."""
    if not isinstance(thing, tuple) or len(thing) == 0 or not all([is_one_of(names, name) for name in thing]):
        return False
    return all([to in thanked_by(web, name) for name, to in zip(thing, thing[1:])])


def is_shut(web, names, thanked):
    """Tell whether all whom names thank, if any, are among those who may be thanked."""
    return all([row[1] in thanked for row in web[2] if row[0] in names])


def fewest_holds(told, paper):
    """Check how many goings are the fewest that let one have an amount."""
    web, to, lot, amount, how = told
    if not is_question_of_person(web, to, lot, amount) or not is_whole(how) or not is_tuple_of(3, paper):
        return False
    names, grounds, cover = paper
    if not is_question(web, names, to, lot) or len(names) != how:
        return False
    if not has_enough(amount_by(web, names, to, lot, grounds), amount) or not isinstance(cover, tuple):
        return False
    if not all([is_cover(web, to, lot, amount, row) for row in cover]):
        return False
    fewer = [gone for gone in sets_of(others_of(web, to)) if len(gone) < how]
    return all([any([is_names(row[0], gone) for row in cover]) for gone in fewer])


def is_cover(web, to, lot, amount, thing):
    """Tell whether a thing of any kind is a set and grounds, by which its going lets one have less than an amount."""
    if not is_tuple_of(2, thing) or not is_question(web, thing[0], to, lot):
        return False
    return has_less(amount_by(web, thing[0], to, lot, thing[1]), amount)


def too_much_holds(told, paper):
    """Check that no goings let one have an amount."""
    web, to, lot, amount = told
    if not is_question_of_person(web, to, lot, amount):
        return False
    return has_less(amount_by(web, others_of(web, to), to, lot, paper), amount)


def part_holds(told, paper):
    """Check the part by a set."""
    web, to, lot, names, amount = told
    if not is_question(web, names, to, lot) or not is_fraction(amount):
        return False
    sets = sets_of(names)
    if not is_tuple_of(len(sets), paper):
        return False
    amounts = [(gone, amount_by(web, gone, to, lot, grounds)) for gone, grounds in zip(sets, paper)]
    return all([row[1] is not None for row in amounts]) and part_of(names, amounts) == amount


def is_opening(web, names, by, thing):
    """Tell whether a thing of any kind shows that thanks lead from by where they don't all lead back from."""
    if not is_tuple_of(2, thing):
        return False
    row, shut = thing
    if not is_names(names, shut) or by in shut or not is_shut(web, shut, shut):
        return False
    if not is_row(web, names, row) or row[0] != by:
        return False
    return row[-1] in shut or any([to not in names for to in thanked_by(web, row[-1])])


def thank_holds(told, paper):
    """Check the least thanks that let one have an amount."""
    web, names, by, to, lot, amount, more = told
    if not is_question_of_thanks(web, names, by, to, lot, amount) or not is_tuple_of(3, paper):
        return False
    if not is_fraction(more) or more[0] <= 0 or not has_less(amount_by(web, names, to, lot, paper[0]), amount):
        return False
    other = thanking_more(web, by, to, more)
    return amount_by(other, names, to, lot, paper[1]) == amount and is_opening(web, names, by, paper[2])


def any_thank_holds(told, paper):
    """Check that any thanks, however little, let one have an amount, but none don't."""
    web, names, by, to, lot, amount = told
    if not is_question_of_thanks(web, names, by, to, lot, amount) or not is_tuple_of(3, paper):
        return False
    grounds, more, shut = paper
    if not has_less(amount_by(web, names, to, lot, grounds), amount):
        return False
    if not has_enough(amount_by(thanking_alone(web, by, to), names, to, lot, more), amount):
        return False
    if not is_names(names, shut) or by not in shut or not is_shut(web, shut, shut):
        return False
    steps = steps_to(web, [by])
    return all([name in steps for name in shut])


def no_thank_holds(told, paper):
    """Check that no thanks let one have an amount."""
    web, names, by, to, lot, amount = told
    if not is_question_of_thanks(web, names, by, to, lot, amount) or not is_tuple_of(3, paper):
        return False
    grounds, more, opening = paper
    if not has_less(amount_by(web, names, to, lot, grounds), amount):
        return False
    most = amount_by(thanking_alone(web, by, to), names, to, lot, more)
    if opening is None:
        return has_less(most, amount)
    return most == amount and is_opening(web, names, by, opening)


def apart_holds(told, paper):
    """Check that two webs bring one unlike amounts."""
    web, other, names, to, lot = told
    if not is_question(web, names, to, None) or not is_web(other) or web[0] != other[0]:
        return False
    if not is_lot(web, lot) and not is_lot(other, lot):
        return False
    if not is_tuple_of(2, paper):
        return False
    amounts = [amount_by(web, names, to, lot, paper[0]), amount_by(other, names, to, lot, paper[1])]
    return amounts[0] is not None and amounts[1] is not None and amounts[0] != amounts[1]


def alike_holds(told, paper):
    """Check that two webs are of the same people, goods and parts of thanks."""
    web, other = told
    if paper is not None or not is_web(web) or not is_web(other) or web[:2] != other[:2]:
        return False
    return all([thanks_by_parts(web, name) == thanks_by_parts(other, name) for name in web[0]])


def thanks_by_parts(web, name):
    """Those whom one of the people thanks, each with its part of all of it."""
    thanks = thanks_of(web, name)
    whole = sum_of([amount for to, amount in thanks])
    return [(to, over(amount, whole)) for to, amount in thanks]


CHECKS = {
    "has": has_holds,
    "can": can_holds,
    "never": never_holds,
    "fewest": fewest_holds,
    "too much": too_much_holds,
    "part": part_holds,
    "thank": thank_holds,
    "any thank": any_thank_holds,
    "no thank": no_thank_holds,
    "apart": apart_holds,
    "alike": alike_holds,
}
# How many parts there are in a claim behind its word.
PARTS = {
    "has": 5,
    "can": 3,
    "never": 3,
    "fewest": 5,
    "too much": 4,
    "part": 5,
    "thank": 7,
    "any thank": 6,
    "no thank": 6,
    "apart": 5,
    "alike": 2,
}


def holds(claim, paper):
    """Tell of things of any kind whether the first is a claim that is so, as the second shows."""
    if not isinstance(claim, tuple) or len(claim) == 0 or not isinstance(claim[0], str):
        return False
    word, told = claim[0], claim[1:]
    if word not in CHECKS or len(told) != PARTS[word]:
        return False
    check = CHECKS[word]
    return check(told, paper)
