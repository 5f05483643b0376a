"""Webs beside each other (points 2, 3 and 15)."""

import inspect
import itertools
import random
from fractions import Fraction

from tests import model
from tests.model import subsets, told
from tests.refusing import Refusing
from tests.samples import (
    ALL, BOTH, CHEST_ALONE, EIGHT, EIGHT_LOTS, FULL, NO_WEBS, NOBODY, ONE, ONE_ALONE, PAIR, RING, ROW, SMALL, made,
)
from tests.things import ODD_THINGS
from thankways import errors
from thankways.beside import apart
from thankways.goings import after
from thankways.webs import held


def apart_by_the_model(web, other):
    for gone in subsets(web[0]):
        one, two = model.after(web, gone), model.after(other, gone)
        for holder in sorted({"chest", *web[0]}):
            for lot in sorted({row[1] for row in web[1] + other[1]}):
                if one.held(holder, lot) != two.held(holder, lot):
                    return (gone, holder, lot)
    return None


def with_thanks(web, thanks):
    """A web with other thanks, fractions of Python's."""
    return (web[0], web[1], tuple(sorted((*pair, told(amount)) for pair, amount in thanks.items() if amount > 0)))


def likes(web, number, many):
    """Webs of the same people, by a number: with a thank or a good put otherwise."""
    source = random.Random(number)
    for _ in range(many):
        goods = {row[:2]: Fraction(*row[2]) for row in web[1]}
        thanks = {row[:2]: Fraction(*row[2]) for row in web[2]}
        pairs = [(name, to) for name in web[0] for to in web[0] + ("chest",) if name != to]
        if pairs and source.random() < 0.8:
            pair = source.choice(pairs)
            thanks[pair] = source.choice((Fraction(0), thanks.get(pair, 0) + Fraction(1, 3), Fraction(2)))
        else:
            pair = (source.choice(web[0] + ("chest",)), source.choice(EIGHT_LOTS[:3]))
            goods[pair] = source.choice((Fraction(0), goods.get(pair, 0) + Fraction(1, 7)))
        if source.random() < 0.5 and web[0]:
            name, times = source.choice(web[0]), Fraction(source.randrange(1, 9), 4)
            thanks = {pair: amount * times if pair[0] == name else amount for pair, amount in thanks.items()}
        goods = tuple(sorted((*pair, told(amount)) for pair, amount in goods.items() if amount > 0))
        yield with_thanks((web[0], goods, ()), thanks)


class TestApart(Refusing):
    def test_webs_that_are_not_apart(self):
        for web in ALL:
            self.assertIsNone(apart(web, web))
        # Each one's thanks are so many times as great, one's as another's or not.
        for web in SMALL + (FULL,):
            times = dict(zip(web[0], (Fraction(3), Fraction(1, 2), Fraction(7, 5), Fraction(1)) * 2))
            thanks = {row[:2]: Fraction(*row[2]) * times[row[0]] for row in web[2]}
            self.assertIsNone(apart(web, with_thanks(web, thanks)))

    def test_webs_that_differ_in_thanks_that_never_bring_anything(self):
        # Nobody thanks cat, who holds nothing.
        web = (ROW[0], ROW[1][:1], (("ann", "ben", ONE), ("cat", "ann", ONE)))
        self.assertIsNone(apart(web, (ROW[0], ROW[1][:1], (("ann", "ben", ONE), ("cat", "ben", ONE)))))
        self.assertIsNone(apart(web, (ROW[0], ROW[1][:1], (("ann", "ben", ONE),))))
        # To thank nobody and to thank the chest alone come to the same; so it is with two who thank each other alone.
        pair = (("ann", "ben", "cat"), (("ann", "rye", ONE), ("cat", "rye", ONE)),
            (("ann", "ben", ONE), ("ben", "ann", ONE)))
        self.assertIsNone(apart(pair, (pair[0], pair[1], pair[2] + (("cat", "chest", ONE),))))
        self.assertIsNone(apart(pair, (pair[0], pair[1], (("ann", "ben", ONE), ("ben", "chest", ONE)))))

    def test_written_out(self):
        self.assertEqual(apart(CHEST_ALONE, NOBODY), ((), "chest", "rye"))
        self.assertEqual(apart(NOBODY, CHEST_ALONE), ((), "chest", "rye"))
        self.assertEqual(apart(ONE_ALONE, (("ann",), (), ())), ((), "ann", "rye"))
        self.assertEqual(apart(ONE_ALONE, (("ann",), (("ann", "oats", (3, 1)),), ())), ((), "ann", "oats"))
        self.assertEqual(apart(ONE_ALONE, (("ann",), (("ann", "rye", (3, 2)),), ())), ((), "ann", "rye"))
        # Thanks alone: nothing is told apart before the one goes.
        other = (ROW[0], ROW[1], ROW[2][:1] + (("ben", "ann", ONE),) + ROW[2][1:])
        self.assertEqual(apart(ROW, other), (("ben",), "ann", "wheat"))
        other = (ROW[0], ROW[1], ROW[2][:1] + (("ben", "ann", ONE), ("ben", "chest", ONE)) + ROW[2][2:])
        self.assertEqual(apart(ROW, other), (("ben",), "ann", "wheat"))
        other = (ROW[0], ROW[1], ROW[2][:2])
        # cat's thanks: what it holds comes to the chest in both.
        self.assertIsNone(apart(ROW, other))
        other = (ROW[0], ROW[1], ROW[2][:2] + (("cat", "ann", ONE),))
        self.assertEqual(apart(ROW, other), (("ben", "cat"), "ann", "wheat"))
        other = (ROW[0], ROW[1][:2], ROW[2])
        self.assertEqual(apart(ROW, other), ((), "chest", "hay"))

    def test_the_least_of_the_fewest_names_then_holder_then_lot(self):
        people, goods = EIGHT[:4], (("ben", "oats", ONE), ("ben", "rye", ONE), ("cat", "rye", ONE))
        web = (people, goods, (("ben", "ann", ONE), ("cat", "dan", ONE)))
        self.assertEqual(apart(web, (people, goods, (("ben", "dan", ONE), ("cat", "ann", ONE)))), (("ben",), "ann", "oats"))
        self.assertEqual(apart(web, (people, goods, (("ben", "ann", ONE), ("cat", "ann", ONE)))), (("cat",), "ann", "rye"))
        self.assertEqual(apart(web, (people, goods, (("ben", "chest", ONE), ("cat", "ann", ONE)))),
            (("ben",), "ann", "oats"))
        # The chest stands between cat and dan.
        self.assertEqual(apart(web, (people, goods, (("ben", "ann", ONE), ("cat", "chest", ONE)))),
            (("cat",), "chest", "rye"))
        self.assertEqual(apart(web, (people, (("chest", "rye", ONE),) + goods[:0], ())), ((), "ben", "oats"))
        self.assertEqual(apart((people, (("chest", "rye", ONE), ("dan", "rye", ONE)), ()), (people, (), ())),
            ((), "chest", "rye"))
        # One going of a later name stands ahead of two of earlier ones.
        deep = (people, (("ann", "rye", ONE), ("dan", "rye", ONE)),
            (("ann", "ben", ONE), ("ben", "cat", ONE), ("dan", "cat", ONE)))
        other = (people, deep[1], (("ann", "ben", ONE), ("ben", "dan", ONE), ("dan", "ben", ONE)))
        self.assertEqual(apart(deep, other), (("dan",), "ben", "rye"))
        other = (people, deep[1], (("ann", "ben", ONE), ("ben", "dan", ONE), ("dan", "cat", ONE)))
        self.assertEqual(apart(deep, other), (("ann", "ben"), "cat", "rye"))

    def test_as_the_model_tells(self):
        seen = set()
        for number, web in enumerate(SMALL + (made(0, 5, density=0.3), made(1, 5, density=0.15))):
            for other in likes(web, number, 12):
                wanted = apart_by_the_model(web, other)
                self.assertEqual(apart(web, other), wanted, (web, other))
                self.assertEqual(apart(other, web), wanted)
                seen.add(None if wanted is None else len(wanted[0]))
        self.assertGreaterEqual(seen, {None, 0, 1, 2})

    def test_where_it_is_told_amounts_are_unlike(self):
        for web, other in itertools.product(SMALL, SMALL):
            if web[0] == other[0]:
                found = apart(web, other)
                if found is not None:
                    names, holder, lot = found
                    amounts = [
                        held(behind, holder, lot=lot) if lot in {row[1] for row in behind[1]} else (0, 1)
                        for behind in (after(web, names), after(other, names))
                    ]
                    self.assertNotEqual(*amounts)

    def test_eight_people(self):
        for place in (0, 20, len(FULL[2]) - 1):
            name, to, amount = FULL[2][place]
            other = (FULL[0], FULL[1], FULL[2][:place] + ((name, to, told(Fraction(*amount) + 1)),) + FULL[2][place + 1:])
            self.assertEqual(apart(FULL, other), apart_by_the_model(FULL, other))
            self.assertEqual(apart(FULL, other)[0], (name,))
        line = (EIGHT, (("ann", "rye", ONE),), tuple((one, to, ONE) for one, to in zip(EIGHT, EIGHT[1:])))
        other = (EIGHT, line[1], line[2] + (("hal", "ann", ONE),))
        self.assertEqual(apart(line, line[:2] + (line[2][:-1],)), (EIGHT[:7], "chest", "rye"))
        # What ann held comes to hal; whether hal thanks ann, who is gone, is all one.
        self.assertIsNone(apart(line, other))

    def test_great_numbers(self):
        web = made(5, 8, lots=1, density=0.5, figures=60)
        self.assertIsNone(apart(web, web))
        name, to, amount = web[2][-1]
        other = (web[0], web[1], web[2][:-1] + ((name, to, told(Fraction(*amount) + Fraction(1, 10 ** 59))),))
        self.assertEqual(apart(web, other)[0], apart_by_the_model(web, other)[0])

    def test_refusals(self):
        for thing in NO_WEBS + ODD_THINGS:
            self.no_web(thing, apart, thing, ROW)
            self.no_web(thing, apart, ROW, thing)
            self.no_web(thing, apart, other=thing, web=NOBODY)
            self.no_web(thing, apart, thing, None)
        for web, other in ((ROW, PAIR), (ROW, NOBODY), (NOBODY, ROW), (BOTH, ROW), (ROW, (("ann", "ben"), (), ())),
            (FULL, BOTH)):
            self.refused(errors.NoMates, {}, apart, web, other)
        with self.assertRaises(errors.StandError):
            apart(ROW, PAIR)

    def test_interface(self):
        self.assertEqual(str(inspect.signature(apart)), "(web, other)")
        self.assertEqual(apart.__module__, "thankways.beside")
        self.assertEqual(apart(other=CHEST_ALONE, web=NOBODY), ((), "chest", "rye"))
        self.assertIsNone(apart(RING, RING))
