"""What comes behind goings (points 2, 3 and 10)."""

import inspect
import itertools
from fractions import Fraction

from tests import model
from tests.model import subsets, told, turns_of
from tests.refusing import Refusing
from tests.samples import ALL, BOTH, CHEST_ALONE, FULL, NO_WEBS, NOBODY, ONE_ALONE, PAIR, RING, ROW, SMALL
from tests.test_goings import NO_NAMES, some_sets
from tests.things import ODD_THINGS
from thankways.comes import has
from thankways.goings import after
from thankways.shares import shares
from thankways.webs import held

NO_LOTS = ("zzz", "cat", "ben", "chest", "Rye", ("rye",), ["rye"], {}, 0, 1, False, True, (), "")


class TestHas(Refusing):
    def test_written_out(self):
        self.assertEqual(has(NOBODY, (), "chest"), (0, 1))
        self.assertEqual(has(CHEST_ALONE, (), "chest"), (5, 2))
        self.assertEqual(has(CHEST_ALONE, (), "chest", lot="rye"), (5, 2))
        self.assertEqual(has(ONE_ALONE, (), "ann"), (3, 1))
        self.assertEqual(has(ONE_ALONE, ("ann",), "chest"), (3, 1))
        self.assertEqual(has(ROW, (), "cat"), (0, 1))
        self.assertEqual(has(ROW, ("ben",), "cat"), (1, 2))
        self.assertEqual(has(ROW, ("ann",), "cat"), (0, 1))
        self.assertEqual(has(ROW, ("ann", "ben"), "cat"), (13, 2))
        self.assertEqual(has(ROW, ("ann", "ben"), "cat", lot="rye"), (6, 1))
        self.assertEqual(has(ROW, ("ann", "ben"), "cat", lot="hay"), (0, 1))
        self.assertEqual(has(ROW, ROW[0], "chest"), told(Fraction(13, 2) + Fraction(2, 3)))
        self.assertEqual(has(RING, ("ann", "ben"), "cat"), (11, 6))
        self.assertEqual(has(PAIR, ("ann", "ben"), "chest", lot="rye"), (4, 1))
        self.assertEqual(has(PAIR, ("ann", "ben", "dan"), "eva", lot="rye"), (4, 1))

    def test_a_lot_called_as_somebody_is(self):
        self.assertEqual(has(BOTH, ("ann",), "cat", lot="ann"), (24, 5))
        self.assertEqual(has(BOTH, ("ann",), "dan", lot="ann"), (0, 1))
        self.assertEqual(has(BOTH, ("ben",), "dan", lot="dan"), (7, 8))
        self.assertEqual(has(BOTH, ("ann",), "cat", lot=None), (34, 5))

    def test_all_lots_are_its_lots_together(self):
        for web in ALL:
            for names in some_sets(web):
                for to in set(web[0] + ("chest",)) - set(names):
                    lots = {row[1] for row in web[1]}
                    whole = sum(Fraction(*has(web, names, to, lot=lot)) for lot in lots)
                    self.assertEqual(has(web, names, to), told(whole))

    def test_as_the_web_behind_the_goings_tells(self):
        for web in ALL:
            for names in some_sets(web):
                behind = after(web, names)
                for to in behind[0] + ("chest",):
                    self.assertEqual(has(web, names, to), held(behind, to))
                    for lot in {row[1] for row in web[1]}:
                        self.assertEqual(has(web, names, to, lot=lot), held(behind, to, lot=lot))

    def test_in_each_turn(self):
        for web in SMALL:
            for names in subsets(web[0]):
                for turn in turns_of(names):
                    behind = model.after(web, turn)
                    for to in behind.people | {"chest"}:
                        self.assertEqual(has(web, names, to), told(behind.held(to)))
                        for lot in behind.lots():
                            self.assertEqual(has(web, names, to, lot=lot), told(behind.held(to, lot)))

    def test_what_it_holds_and_the_shares_of_what_those_who_go_hold(self):
        for web in ALL:
            for names in some_sets(web):
                rows = dict(zip(names, shares(web, names)))
                for to in set(web[0] + ("chest",)) - set(names):
                    comes = Fraction(*held(web, to))
                    for name in names:
                        comes += Fraction(*held(web, name)) * Fraction(*dict(rows[name]).get(to, (0, 1)))
                    self.assertEqual(has(web, names, to), told(comes))

    def test_nothing_is_lost(self):
        for web in ALL:
            for names in some_sets(web):
                for lot in {row[1] for row in web[1]}:
                    there = sum(Fraction(*row[2]) for row in web[1] if row[1] == lot)
                    stays = set(web[0] + ("chest",)) - set(names)
                    self.assertEqual(sum(Fraction(*has(web, names, to, lot=lot)) for to in stays), there)

    def test_more_goings_bring_no_less_and_two_sets_together_no_less_than_each(self):
        for web in SMALL:
            for to in web[0] + ("chest",):
                others = tuple(name for name in web[0] if name != to)
                amounts = {set_: Fraction(*has(web, set_, to)) for set_ in subsets(others)}
                for one, other in itertools.product(amounts, repeat=2):
                    either = amounts[tuple(sorted(set(one) | set(other)))]
                    common = amounts[tuple(sorted(set(one) & set(other)))]
                    self.assertLessEqual(amounts[one], either)
                    self.assertLessEqual(amounts[one] + amounts[other], either + common)

    def test_more_thanks_towards_somebody_never_bring_less(self):
        for web in SMALL:
            thanks = {row[:2]: row[2] for row in web[2]}
            for name, to in itertools.permutations(web[0], 2):
                more = {**thanks, (name, to): told(Fraction(*thanks.get((name, to), (0, 1))) + Fraction(3, 2))}
                other = (web[0], web[1], tuple(sorted((*pair, amount) for pair, amount in more.items())))
                for names in subsets([one for one in web[0] if one != to]):
                    self.assertLessEqual(Fraction(*has(web, names, to)), Fraction(*has(other, names, to)))

    def test_refusals(self):
        for thing in NO_WEBS + ODD_THINGS:
            self.no_web(thing, has, thing, (), "ann")
            self.no_web(thing, has, thing, None, None, lot=0)
        for names in NO_NAMES + ODD_THINGS + tuple((thing,) for thing in ODD_THINGS):
            self.no_names(names, has, BOTH, names, "cat")
            self.no_names(names, has, BOTH, names, "zoe", lot="zzz")
            self.no_names(names, has, to=[], names=names, web=BOTH)
        for to in ("zoe", "rye", "chests", "", "Ann", ("ann",), ["ann"], (), {}, 0) + ODD_THINGS:
            self.no_name(to, has, BOTH, (), to)
            self.no_name(to, has, BOTH, ("ann",), to, lot="zzz")
        for names, to in ((("ann",), "ann"), (("ann", "ben"), "ben"), (BOTH[0], "dan")):
            self.no_name(to, has, BOTH, names, to)
            self.no_name(to, has, BOTH, names, to, lot="zzz")
        for lot in NO_LOTS + ODD_THINGS[1:]:
            self.no_lot(lot, has, BOTH, (), "ann", lot=lot)
            self.no_lot(lot, has, BOTH, ("ann",), "chest", lot=lot)
        self.no_lot("rye", has, NOBODY, (), "chest", lot="rye")
        self.no_name("ann", has, NOBODY, (), "ann")

    def test_interface(self):
        self.assertEqual(str(inspect.signature(has)), "(web, names, to, *, lot=None)")
        self.assertEqual(has.__module__, "thankways.comes")
        self.assertEqual(has(to="cat", lot="rye", names=("ann",), web=BOTH), (2, 1))
        with self.assertRaises(TypeError):
            has(BOTH, ("ann",), "cat", "rye")

    def test_eight_people(self):
        for names in subsets(FULL[0])[::23]:
            for to in set(FULL[0] + ("chest",)) - set(names):
                self.assertEqual(has(FULL, names, to), told(model.after(FULL, names[::-1]).held(to)))
