"""The fewest goings, and the most that some bring (points 2, 3 and 13)."""

import inspect
from fractions import Fraction

from tests import model
from tests.model import subsets, told
from tests.refusing import Refusing
from tests.samples import BOTH, EIGHT, LARGE, NO_WEBS, ONE_ALONE, PAIR, RING, ROW, SMALL, made
from tests.test_comes import NO_LOTS
from tests.test_webs import NO_AMOUNTS
from tests.things import ODD_THINGS
from thankways.comes import has
from thankways.fewest import fewest, most

LITTLE = Fraction(1, 10 ** 30)
MIDDLE = (made(0, 5, density=0.4), made(1, 5, density=0.7), made(2, 6, lots=1, density=0.3))
# Both ben and cat bring ann all that dan left to them; dan alone brings nothing.
ALIKE = (
    ("ann", "ben", "cat", "dan"),
    (("ben", "rye", (2, 1)), ("cat", "rye", (2, 1)), ("dan", "rye", (1, 1))),
    (("ben", "ann", (1, 1)), ("cat", "ann", (1, 1)), ("dan", "chest", (1, 1))),
)


def all_amounts(web, to, lot):
    """By the model: for each set of others what one has behind its going."""
    others = [name for name in web[0] if name != to]
    return {gone: model.after(web, gone).held(to, lot) for gone in subsets(others)}


def each_question(webs):
    for web in webs:
        for to in web[0]:
            for lot in (None, *sorted({row[1] for row in web[1]}))[:2]:
                yield web, to, lot, all_amounts(web, to, lot)


class TestFewest(Refusing):
    def test_written_out(self):
        self.assertEqual(fewest(ONE_ALONE, "ann", (3, 1)), ((), (3, 1)))
        self.assertIsNone(fewest(ONE_ALONE, "ann", (31, 10)))
        self.assertEqual(fewest(ROW, "cat", (0, 1)), ((), (0, 1)))
        self.assertEqual(fewest(ROW, "cat", (1, 2)), (("ben",), (1, 2)))
        self.assertEqual(fewest(ROW, "cat", (3, 5)), (("ann", "ben"), (13, 2)))
        self.assertEqual(fewest(ROW, "cat", (13, 2)), (("ann", "ben"), (13, 2)))
        self.assertIsNone(fewest(ROW, "cat", (20, 3)))
        self.assertEqual(fewest(ROW, "cat", (1, LARGE), lot="rye"), (("ann", "ben"), (6, 1)))
        self.assertIsNone(fewest(ROW, "cat", (1, LARGE), lot="hay"))
        self.assertEqual(fewest(ROW, "cat", (0, 1), lot="hay"), ((), (0, 1)))
        self.assertEqual(fewest(RING, "cat", (1, 3)), ((), (1, 3)))
        self.assertEqual(fewest(RING, "cat", (3, 4)), (("ben",), (5, 6)))

    def test_of_several_alike_in_number_the_least(self):
        self.assertEqual(fewest(ALIKE, "ann", (1, 1)), (("ben",), (2, 1)))
        self.assertEqual(fewest(ALIKE, "ann", (2, 1)), (("ben",), (2, 1)))
        self.assertEqual(fewest(ALIKE, "ann", (21, 10)), (("ben", "cat"), (4, 1)))
        # Not the one of those that brings more.
        more = (ALIKE[0], (("ben", "rye", (2, 1)), ("cat", "rye", (9, 1))), ALIKE[2])
        self.assertEqual(fewest(more, "ann", (1, 1)), (("ben",), (2, 1)))
        self.assertEqual(fewest(more, "ann", (3, 1)), (("cat",), (9, 1)))

    def test_each_amount_that_is_just_reached_a_little_more_and_less(self):
        for web, to, lot, amounts in each_question(SMALL + MIDDLE):
            for reached in sorted(set(amounts.values())):
                for amount in {reached, reached + LITTLE, max(reached - LITTLE, Fraction(0))}:
                    fits = [gone for gone in amounts if amounts[gone] >= amount]
                    wanted = None
                    if fits:
                        least = min(fits, key=lambda gone: (len(gone), gone))
                        wanted = (least, told(amounts[least]))
                    self.assertEqual(fewest(web, to, told(amount), lot=lot), wanted)

    def test_what_is_told_brings_the_amount(self):
        for web, to, lot, amounts in each_question(SMALL + MIDDLE):
            names, amount = fewest(web, to, told(max(amounts.values())), lot=lot)
            self.assertIs(type(names), tuple)
            self.assertEqual(has(web, names, to, lot=lot), amount)

    def test_eight_people(self):
        web = made(7, 8, density=0.3)
        for to in web[0]:
            whole = has(web, tuple(name for name in EIGHT if name != to), to)
            names, amount = fewest(web, to, whole)
            self.assertEqual((has(web, names, to), amount), (whole, whole))
            self.assertIsNone(fewest(web, to, told(Fraction(*whole) + LITTLE)))


class TestMost(Refusing):
    def test_written_out(self):
        self.assertEqual(most(ROW, "cat", 0), ((), (0, 1)))
        self.assertEqual(most(ROW, "cat", 1), (("ben",), (1, 2)))
        self.assertEqual(most(ROW, "cat", 2), (("ann", "ben"), (13, 2)))
        self.assertEqual(most(ROW, "cat", 9), (("ann", "ben"), (13, 2)))
        self.assertEqual(most(ROW, "cat", LARGE), (("ann", "ben"), (13, 2)))
        self.assertEqual(most(ROW, "cat", 1, lot="rye"), ((), (0, 1)))
        self.assertEqual(most(ROW, "cat", 2, lot="hay"), ((), (0, 1)))
        self.assertEqual(most(PAIR, "eva", 3, lot="rye"), (("dan",), (4, 1)))
        self.assertEqual(most(ONE_ALONE, "ann", 5), ((), (3, 1)))

    def test_the_fewest_and_the_least_that_bring_it(self):
        self.assertEqual(most(ALIKE, "ann", 1), (("ben",), (2, 1)))
        self.assertEqual(most(ALIKE, "ann", 2), (("ben", "cat"), (4, 1)))
        self.assertEqual(most(ALIKE, "ann", 3), (("ben", "cat"), (4, 1)))
        more = (ALIKE[0], (("ben", "rye", (2, 1)), ("cat", "rye", (9, 1))), ALIKE[2])
        self.assertEqual(most(more, "ann", 1), (("cat",), (9, 1)))

    def test_each_number_of_goings(self):
        for web, to, lot, amounts in each_question(SMALL + MIDDLE):
            for many in range(len(web[0]) + 2):
                may = [gone for gone in amounts if len(gone) <= many]
                best = min(may, key=lambda gone: (-amounts[gone], len(gone), gone))
                self.assertEqual(most(web, to, many, lot=lot), (best, told(amounts[best])))

    def test_fewest_and_most_agree(self):
        for web, to, lot, amounts in each_question(SMALL + MIDDLE):
            for many in range(len(web[0])):
                names, amount = most(web, to, many, lot=lot)
                self.assertEqual(fewest(web, to, amount, lot=lot), (names, amount))
                further = fewest(web, to, told(Fraction(*amount) + LITTLE), lot=lot)
                self.assertTrue(further is None or len(further[0]) > many)

    def test_eight_people(self):
        web = made(7, 8, density=0.3)
        for many in (0, 3, 7, 8, 60):
            names, amount = most(web, "eva", many)
            self.assertLessEqual(len(names), many)
            self.assertEqual(has(web, names, "eva"), amount)
        self.assertEqual(amount, has(web, EIGHT[:4] + EIGHT[5:], "eva"))


class TestRefusals(Refusing):
    def test_webs_names_and_lots(self):
        for call, good, bad in ((fewest, (1, 1), (2, 2)), (most, 1, -1)):
            for thing in NO_WEBS + ODD_THINGS:
                self.no_web(thing, call, thing, "ann", good)
                self.no_web(thing, call, thing, "zoe", bad, lot="zzz")
            for to in ("zoe", "rye", "chest", "chests", ("ann",), ["ann"], (), 0) + ODD_THINGS:
                self.no_name(to, call, BOTH, to, good)
                self.no_name(to, call, BOTH, to, bad, lot="zzz")
            for lot in NO_LOTS + ODD_THINGS[1:]:
                self.no_lot(lot, call, BOTH, "ann", good, lot=lot)

    def test_amounts(self):
        for amount in NO_AMOUNTS + ODD_THINGS + ((-1, 3), (-LARGE, 1), (0, 2), (0, -1)):
            if amount is NO_AMOUNTS[0]:
                continue
            self.no_amount(amount, fewest, BOTH, "ann", amount)
            self.no_amount(amount, fewest, BOTH, "ann", amount, lot="zzz")
            self.no_amount(amount, fewest, amount=amount, to="ann", web=BOTH)
        self.assertEqual(fewest(BOTH, "ann", (0, 1)), ((), (17, 1)))

    def test_how_many(self):
        for many in (-1, -LARGE, "1", (1,), (1, 1), [1], (), 10 ** 5000 * -1) + ODD_THINGS[:-1]:
            self.no_many(many, most, BOTH, "ann", many)
            self.no_many(many, most, BOTH, "ann", many, lot="zzz")
            self.no_many(many, most, many=many, to="ann", web=BOTH)
        self.assertEqual(most(BOTH, "ann", 10 ** 5000), most(BOTH, "ann", 4))

    def test_interface(self):
        self.assertEqual(str(inspect.signature(fewest)), "(web, to, amount, *, lot=None)")
        self.assertEqual(str(inspect.signature(most)), "(web, to, many, *, lot=None)")
        for call, third in ((fewest, {"amount": (5, 1)}), (most, {"many": 2})):
            self.assertEqual(call.__module__, "thankways.fewest")
            wanted = call(BOTH, "cat", *third.values(), lot="rye")
            self.assertEqual(call(lot="rye", to="cat", web=BOTH, **third), wanted)
            with self.assertRaises(TypeError):
                call(BOTH, "cat", *third.values(), "rye")
