"""Point 3, 5 and 8 once more, row by row as the document tells them, over Python's own fractions.

The tests hold what the program tells against this; it shares nothing with the program.
"""

import itertools
import random
import re
from fractions import Fraction


def told(number):
    """A number as the program's fraction."""
    number = Fraction(number)
    return (number.numerator, number.denominator)


def is_name(thing):
    return type(thing) is str and re.fullmatch("[a-z]{1,8}", thing) is not None and thing != "chest"


def is_amount(thing):
    if type(thing) is not tuple or [type(part) for part in thing] != [int, int]:
        return False
    return thing[1] > 0 and thing[0] > 0 and told(Fraction(*thing)) == thing


def is_web(thing):
    if type(thing) is not tuple or [type(part) for part in thing] != [tuple, tuple, tuple]:
        return False
    people, goods, thanks = thing
    if not all(map(is_name, people)) or list(people) != sorted(set(people)) or len(people) > 8:
        return False
    for rows, seconds in ((goods, None), (thanks, list(people) + ["chest"])):
        for row in rows:
            if type(row) is not tuple or len(row) != 3 or not is_amount(row[2]):
                return False
            if [type(part) for part in row[:2]] != [str, str]:
                return False
            if row[0] not in (list(people) + ["chest"] if rows is goods else people):
                return False
            if not is_name(row[1]) if rows is goods else (row[1] not in seconds or row[1] == row[0]):
                return False
        pairs = [row[:2] for row in rows]
        if list(rows) != sorted(rows) or len(set(pairs)) != len(pairs):
            return False
    return len({row[1] for row in goods}) <= 8


class Model:
    """A web that is changed deed by deed and going by going."""

    def __init__(self, web=((), (), ())):
        self.people = set(web[0])
        self.goods = {(holder, lot): Fraction(*amount) for holder, lot, amount in web[1]}
        self.thanks = {(name, to): Fraction(*amount) for name, to, amount in web[2]}

    def web(self):
        return (
            tuple(sorted(self.people)),
            tuple(sorted((*pair, told(amount)) for pair, amount in self.goods.items() if amount)),
            tuple(sorted((*pair, told(amount)) for pair, amount in self.thanks.items() if amount)),
        )

    def held(self, holder, lot=None):
        return sum([a for (who, what), a in self.goods.items() if who == holder and lot in (None, what)], Fraction(0))

    def more(self, rows, one, other, amount):
        rows[(one, other)] = rows.get((one, other), Fraction(0)) + amount

    def go(self, name):
        gives = {to: amount for (who, to), amount in self.thanks.items() if who == name and amount}
        whole = sum(gives.values())
        parts = {to: amount / whole for to, amount in gives.items()} if whole else {"chest": Fraction(1)}
        for (holder, lot), amount in list(self.goods.items()):
            if holder == name:
                del self.goods[(holder, lot)]
                for to, part in parts.items():
                    self.more(self.goods, to, lot, amount * part)
        for (who, to), amount in list(self.thanks.items()):
            if who == name:
                del self.thanks[(who, to)]
            elif to == name:
                del self.thanks[(who, to)]
                for other, part in parts.items():
                    if other != who:
                        self.more(self.thanks, who, other, amount * part)
        self.people.remove(name)
        return self

    def lots(self):
        return {lot for (_, lot), amount in self.goods.items() if amount}

    def fault(self, deed):
        word, who, *rest = deed
        to = rest[0] if word in ("give", "hand", "forget") else None
        faults = {
            "there": word == "come" and who in self.people,
            "nobody": word != "come" and not {who, to or who} <= self.people | ({"chest"} if to == "chest" else set()),
            "lot": (word == "bring" and rest[0] in self.lots()) or (word == "hand" and rest[1] not in self.lots()),
            "less": (word == "give" and self.held(who) < rest[-1])
            or (word == "hand" and self.held(who, rest[1]) < rest[-1])
            or (word == "forget" and self.thanks.get((who, to), 0) < rest[-1]),
            "full": (word == "come" and len(self.people) == 8) or (word == "bring" and len(self.lots()) == 8),
        }
        return next((name for name, is_so in faults.items() if is_so), None)

    def do(self, deed):
        word, who, *rest = deed
        if word == "come":
            self.people.add(who)
        elif word == "bring":
            self.more(self.goods, who, rest[0], Fraction(rest[1]))
        elif word == "forget":
            self.more(self.thanks, who, rest[0], Fraction(-rest[1]))
        elif word == "go":
            self.go(who)
        else:
            lots = [rest[1]] if word == "hand" else sorted(self.lots())
            part = Fraction(rest[-1]) / sum(self.held(who, lot) for lot in lots)
            for lot in lots:
                amount = self.held(who, lot) * part
                self.more(self.goods, who, lot, -amount)
                self.more(self.goods, rest[0], lot, amount)
            self.more(self.thanks, rest[0], who, Fraction(rest[-1]))
        return self


def after(web, turn):
    """The model behind the going of names in their turn."""
    model = Model(web)
    for name in turn:
        model.go(name)
    return model


def turns_of(names, most=24):
    """All turns of a few names; of many some, the first and the last among them."""
    if len(names) <= 4:
        return list(itertools.permutations(names))
    turns = [tuple(names), tuple(reversed(names))]
    source = random.Random(len(names))
    return turns + [tuple(source.sample(names, len(names))) for _ in range(most - 2)]


def subsets(names):
    """All rising tuples of some of rising names, the fewer ahead, then rising."""
    return [gone for many in range(len(names) + 1) for gone in itertools.combinations(names, many)]
