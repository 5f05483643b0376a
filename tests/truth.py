"""Point 18 once more, over Python's own fractions and by the model: which claims are so, and which papers show it.

is_so tells of a claim whether it is so, by goings and by amounts alone. takes tells whether a paper is as point 18
tells of it. paper_of makes one. They share nothing with the program.
"""

import itertools
from fractions import Fraction

from tests import model
from tests.model import subsets, told

CLAIMS = ("has", "can", "never", "fewest", "too much", "part", "thank", "any thank", "no thank", "apart", "alike")
TINY, VAST = Fraction(1, 10 ** 40), Fraction(10 ** 40)


def is_whole(thing, least):
    return type(thing) is int and thing >= least


def is_fraction(thing):
    return type(thing) is tuple and [type(part) for part in thing] == [int, int] and thing[1] > 0 and told(
        Fraction(*thing)) == thing


def is_some(names, thing):
    """Whether something is a rising tuple of some of names."""
    return type(thing) is tuple and all(type(name) is str for name in thing) and set(thing) <= set(names) and list(
        thing) == sorted(set(thing))


def thanks_of(web, name):
    return {row[1]: Fraction(*row[2]) for row in web[2] if row[0] == name}


def with_thanks(web, by, thanks):
    rows = [row for row in web[2] if row[0] != by] + [(by, to, told(amount)) for to, amount in thanks.items()]
    return (web[0], web[1], tuple(sorted(rows)))


def with_more(web, by, to, more):
    thanks = thanks_of(web, by)
    thanks[to] = thanks.get(to, 0) + Fraction(more)
    return with_thanks(web, by, thanks)


def with_alone(web, by, to):
    return with_thanks(web, by, {to: Fraction(3, 7)})


def amount_of(web, names, to, lot):
    return model.after(web, names).held(to, lot)


def lots_of(web):
    return {row[1] for row in web[1]}


def is_asked(word, told_so):
    """Whether what stands behind a claim's word is of the kinds that are told of it."""
    wanted = {
        "has": "WNTLA", "can": "WLT", "never": "WLT", "fewest": "WTLAH", "too much": "WTLA", "part": "WTLNA",
        "thank": "WNBTLAM", "any thank": "WNBTLA", "no thank": "WNBTLA", "apart": "WONTL", "alike": "WO",
    }.get(word)
    if wanted is None or len(told_so) != len(wanted):
        return False
    parts = dict(zip(wanted, told_so))
    web = parts["W"]
    if not model.is_web(web) or ("N" in parts and not is_some(web[0], parts["N"])):
        return False
    if "O" in parts and (not model.is_web(parts["O"]) or parts["O"][0] != web[0]):
        return False
    stays = [name for name in web[0] if name not in parts.get("N", ())]
    if word in ("has", "part", "apart"):
        stays.append("chest")
    lots = lots_of(web) | (lots_of(parts["O"]) if "O" in parts else set())
    none_may_be = word not in ("can", "never", "apart")
    return (
        ("T" not in parts or (type(parts["T"]) is str and parts["T"] in stays))
        and ("L" not in parts or (parts["L"] is None and none_may_be) or (type(parts["L"]) is str and parts["L"] in lots))
        and ("A" not in parts or is_fraction(parts["A"]))
        and ("H" not in parts or is_whole(parts["H"], 0))
        and ("B" not in parts or (type(parts["B"]) is str and parts["B"] in parts["N"]))
        and ("M" not in parts or (is_fraction(parts["M"]) and parts["M"][0] > 0))
        and (word != "alike" or web[1] == parts["O"][1])
    )


def is_claim(claim):
    return type(claim) is tuple and len(claim) > 0 and type(claim[0]) is str and is_asked(claim[0], claim[1:])


def others_of(web, to):
    return tuple(name for name in web[0] if name != to)


def fewest_of(web, to, lot, amount):
    for gone in subsets(others_of(web, to)):
        if amount_of(web, gone, to, lot) >= amount:
            return len(gone)
    return None


def part_of(web, to, lot, names):
    return sum(
        ((-1) ** (len(names) - len(gone)) * amount_of(web, gone, to, lot) for gone in subsets(names)), Fraction(0))


def parts_of_thanks(web, name):
    thanks = thanks_of(web, name)
    return {to: amount / sum(thanks.values()) for to, amount in thanks.items()}


def is_so(claim):
    """Whether what a claim says is so."""
    if not is_claim(claim):
        return False
    word, web, *rest = claim
    if word in ("can", "never"):
        lot, to = rest
        ways = any(amount_of(web, gone, to, lot) > 0 for gone in subsets(others_of(web, to)))
        return ways == (word == "can")
    if word == "has":
        return amount_of(web, rest[0], rest[1], rest[2]) == Fraction(*rest[3])
    if word == "fewest":
        return fewest_of(web, rest[0], rest[1], Fraction(*rest[2])) == rest[3]
    if word == "too much":
        return fewest_of(web, rest[0], rest[1], Fraction(*rest[2])) is None
    if word == "part":
        return part_of(web, rest[0], rest[1], rest[2]) == Fraction(*rest[3])
    if word == "apart":
        other, names, to, lot = rest
        return amount_of(web, names, to, lot) != amount_of(other, names, to, lot)
    if word == "alike":
        return all(parts_of_thanks(web, name) == parts_of_thanks(rest[0], name) for name in web[0])
    return is_so_of_thanks(word, web, *rest)


def is_so_of_thanks(word, web, names, by, to, lot, amount, least=None):
    amount = Fraction(*amount)
    if amount_of(web, names, to, lot) >= amount:
        return False
    if word == "thank":
        least = Fraction(*least)
        little_less = with_more(web, by, to, least * (1 - TINY))
        just = amount_of(with_more(web, by, to, least), names, to, lot)
        return just >= amount > amount_of(little_less, names, to, lot)
    if word == "any thank":
        return amount_of(with_more(web, by, to, TINY), names, to, lot) >= amount
    return amount_of(with_more(web, by, to, VAST), names, to, lot) < amount


# Papers: how they are told.

def shown_by(web, names, to, lot, grounds):
    """What TO has by a thing of any kind, None where it is no grounds."""
    if type(grounds) is not tuple or len(grounds) != len(names):
        return None
    for row in grounds:
        if type(row) is not tuple or len(row) != 2 or not is_fraction(row[0]):
            return None
        if row[1] is not None and not is_whole(row[1], 1):
            return None
    shares = {name: Fraction(*row[0]) for name, row in zip(names, grounds)}
    steps = {name: row[1] for name, row in zip(names, grounds)}
    for name in names:
        parts = parts_of_thanks(web, name)
        nexts = [1 if other not in names else steps[other] and steps[other] + 1 for other in parts]
        if steps[name] is None:
            if any(steps_on is not None for steps_on in nexts) or shares[name] != (to == "chest"):
                return None
        elif steps[name] not in nexts:
            return None
        elif shares[name] != sum(part * shares.get(other, other == to) for other, part in parts.items()):
            return None
    start = model.Model(web)
    return start.held(to, lot) + sum(shares[name] * start.held(name, lot) for name in names)


def thanks_within(web, names, who):
    return all(set(thanks_of(web, name)) <= set(names) for name in who)


def is_opening(web, names, by, thing):
    if type(thing) is not tuple or len(thing) != 2:
        return False
    row, shut = thing
    if not is_some(names, shut) or by in shut or not thanks_within(web, shut, shut):
        return False
    if type(row) is not tuple or not all(type(name) is str and name in names for name in row) or row[:1] != (by,):
        return False
    if not all(to in thanks_of(web, name) for name, to in zip(row, row[1:])):
        return False
    return row[-1] in shut or not thanks_within(web, names, row[-1:])


def lead_to(web, goal):
    """All from whom thanks lead to one, this one among them."""
    found = {goal}
    for _ in web[0]:
        found |= {row[0] for row in web[2] if row[1] in found}
    return found


def takes(claim, paper):
    """Whether a thing is a paper for a claim."""
    if not is_claim(claim):
        return False
    word, web, *rest = claim
    if word == "has":
        return shown_by(web, *rest[:3], paper) == Fraction(*rest[3])
    if word == "can":
        if type(paper) is not tuple or not paper or not all(type(name) is str and name in web[0] for name in paper):
            return False
        steps = all(to in thanks_of(web, name) for name, to in zip(paper, paper[1:]))
        return steps and model.Model(web).held(paper[0], rest[0]) > 0 and paper[-1] == rest[1]
    if word == "never":
        holders = {row[0] for row in web[1] if row[1] == rest[0]} - {"chest"}
        return is_some(others_of(web, rest[1]), paper) and holders <= set(paper) and thanks_within(
            web, (*paper, "chest"), paper)
    if word == "fewest":
        return takes_fewest(web, *rest, paper)
    if word == "too much":
        amount = shown_by(web, others_of(web, rest[0]), rest[0], rest[1], paper)
        return amount is not None and amount < Fraction(*rest[2])
    if word == "part":
        to, lot, names, amount = rest
        sets = subsets(names)
        if type(paper) is not tuple or len(paper) != len(sets):
            return False
        shown = [shown_by(web, gone, to, lot, grounds) for gone, grounds in zip(sets, paper)]
        return None not in shown and Fraction(*amount) == sum(
            (-1) ** (len(names) - len(gone)) * one for gone, one in zip(sets, shown))
    if word == "apart":
        if type(paper) is not tuple or len(paper) != 2:
            return False
        shown = [shown_by(one, *rest[1:], grounds) for one, grounds in zip((web, rest[0]), paper)]
        return None not in shown and shown[0] != shown[1]
    if word == "alike":
        return paper is None and is_so(claim)
    return takes_thanks(word, web, *rest, paper=paper)


def takes_fewest(web, to, lot, amount, how, paper):
    amount, others = Fraction(*amount), others_of(web, to)
    if type(paper) is not tuple or len(paper) != 3 or not is_some(others, paper[0]) or len(paper[0]) != how:
        return False
    enough = shown_by(web, paper[0], to, lot, paper[1])
    if enough is None or enough < amount or type(paper[2]) is not tuple:
        return False
    for row in paper[2]:
        if type(row) is not tuple or len(row) != 2 or not is_some(others, row[0]):
            return False
        less = shown_by(web, row[0], to, lot, row[1])
        if less is None or less >= amount:
            return False
    fewer = [set(gone) for gone in subsets(others) if len(gone) < how]
    return all(any(gone <= set(row[0]) for row in paper[2]) for gone in fewer)


def takes_thanks(word, web, names, by, to, lot, amount, least=None, *, paper):
    amount = Fraction(*amount)
    if type(paper) is not tuple or len(paper) != 3:
        return False
    without = shown_by(web, names, to, lot, paper[0])
    other = with_more(web, by, to, Fraction(*least)) if word == "thank" else with_alone(web, by, to)
    then = shown_by(other, names, to, lot, paper[1])
    if without is None or without >= amount or then is None:
        return False
    if word == "any thank":
        shut = paper[2]
        return then >= amount and is_some(names, shut) and by in shut and thanks_within(web, shut, shut) and set(
            shut) <= lead_to(web, by)
    if word == "no thank" and paper[2] is None:
        return then < amount
    return then == amount and is_opening(web, names, by, paper[2])


# Papers: how they may be made.

def grounds(web, names, to):
    shares = {}
    for name in names:
        alone = (web[0], ((name, "unit", (1, 1)),), web[2])
        shares[name] = told(amount_of(alone, names, to, "unit"))
    steps = {}
    for many in range(1, len(names) + 1):
        near = {"chest", *web[0]} - set(names) if many == 1 else {name for name in steps if steps[name] == many - 1}
        for name in names:
            if name not in steps and set(thanks_of(web, name)) & near:
                steps[name] = many
    return tuple((shares[name], steps.get(name)) for name in names)


def ways(web, starts, names):
    """All rows of names, each once, from one of starts on, each thanking the next; the fewer ahead."""
    for many in range(1, len(names) + 1):
        for row in itertools.permutations(names, many):
            if row[0] in starts and all(to in thanks_of(web, name) for name, to in zip(row, row[1:])):
                yield row


def openings(web, names, by):
    """All OPENs of people each once."""
    rows = list(ways(web, (by,), names))
    sets = [shut for shut in subsets(names) if by not in shut and thanks_within(web, shut, shut)]
    return [(row, shut) for shut in sets for row in rows if is_opening(web, names, by, (row, shut))]


def paper_of(claim):
    """A paper for a claim that is so; None where none could be made."""
    word, web, *rest = claim
    if word in ("has", "apart"):
        told_so = rest if word == "has" else rest[1:]
        paper = tuple(grounds(one, told_so[0], told_so[1]) for one in ([web] if word == "has" else [web, rest[0]]))
        return paper[0] if word == "has" else paper
    if word == "can":
        starts = {row[0] for row in web[1] if row[1] == rest[0]}
        return next((row for row in ways(web, starts, web[0]) if row[-1] == rest[1]), None)
    if word == "never":
        return next((shut for shut in subsets(web[0]) if takes(claim, shut)), None)
    if word == "too much":
        return grounds(web, others_of(web, rest[0]), rest[0])
    if word == "part":
        return tuple(grounds(web, gone, rest[0]) for gone in subsets(rest[2]))
    if word == "alike":
        return None
    if word == "fewest":
        to, lot, amount, how = rest
        sets = [gone for gone in subsets(others_of(web, to)) if len(gone) in (how, how - 1)]
        names = next(gone for gone in sets if amount_of(web, gone, to, lot) >= Fraction(*amount))
        cover = tuple((gone, grounds(web, gone, to)) for gone in sets if len(gone) == how - 1)
        return (names, grounds(web, names, to), cover)
    return paper_of_thanks(word, web, *rest)


def paper_of_thanks(word, web, names, by, to, lot, amount, least=None):
    other = with_more(web, by, to, Fraction(*least)) if word == "thank" else with_alone(web, by, to)
    shown = (grounds(web, names, to), grounds(other, names, to))
    if word == "any thank":
        shut = [one for one in subsets(names) if by in one and thanks_within(web, one, one)]
        return (*shown, next(one for one in shut if set(one) <= lead_to(web, by)))
    if word == "no thank" and amount_of(other, names, to, lot) < Fraction(*amount):
        return (*shown, None)
    return (*shown, openings(web, names, by)[0])
