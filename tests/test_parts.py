"""Parts by sets, and merits (points 2, 3 and 11)."""

import inspect
import itertools
from fractions import Fraction

from tests import model
from tests.model import subsets, told
from tests.refusing import Refusing
from tests.samples import BOTH, CHEST_ALONE, EIGHT, NO_WEBS, NOBODY, ONE_ALONE, PAIR, RING, ROW, SMALL, made
from tests.test_comes import NO_LOTS
from tests.test_goings import NO_NAMES
from tests.things import ODD_THINGS
from thankways.comes import has
from thankways.parts import merits, parts

LARGER = (made(0, 5, density=0.4), made(1, 6, density=0.3), made(2, 6, lots=1, density=0.6))


def each_question(webs):
    for web in webs:
        for to in web[0] + ("chest",):
            others = tuple(name for name in web[0] if name != to)
            for names in subsets(others)[::-1][:9]:
                for lot in (None, *sorted({row[1] for row in web[1]}))[:2]:
                    yield web, names, to, lot


class TestParts(Refusing):
    def test_written_out(self):
        self.assertEqual(parts(NOBODY, (), "chest"), ())
        self.assertEqual(parts(CHEST_ALONE, (), "chest"), (((), (5, 2)),))
        self.assertEqual(parts(ONE_ALONE, ("ann",), "chest"), ((("ann",), (3, 1)),))
        self.assertEqual(parts(ONE_ALONE, (), "ann"), (((), (3, 1)),))
        self.assertEqual(parts(ROW, ("ann", "ben"), "cat"), ((("ben",), (1, 2)), (("ann", "ben"), (6, 1))))
        self.assertEqual(parts(ROW, ("ann", "ben"), "cat", lot="hay"), ())
        self.assertEqual(parts(ROW, ROW[0], "chest"), (
            ((), (2, 3)), (("ben", "cat"), (1, 2)), (("ann", "ben", "cat"), (6, 1)),
        ))
        self.assertEqual(parts(RING, ("ann", "ben"), "cat"), (
            ((), (1, 3)), (("ben",), (1, 2)), (("ann", "ben"), (1, 1)),
        ))

    def test_all_sets_within_a_set_come_to_what_one_has_behind_its_going(self):
        for web, names, to, lot in each_question(SMALL + LARGER):
            rows = parts(web, names, to, lot=lot)
            for gone in subsets(names):
                whole = sum([Fraction(*amount) for some, amount in rows if set(some) <= set(gone)], Fraction(0))
                self.assertEqual(told(whole), has(web, gone, to, lot=lot))

    def test_of_sets_of_names_once_each_the_fewer_ahead_then_rising_and_above_0(self):
        for web, names, to, lot in each_question(SMALL + LARGER):
            rows = parts(web, names, to, lot=lot)
            self.assertIs(type(rows), tuple)
            sets = [row[0] for row in rows]
            self.assertEqual(sets, sorted(set(sets), key=lambda gone: (len(gone), gone)))
            self.assertLessEqual(set(sets), set(subsets(names)))
            for row in rows:
                self.assertEqual([type(row), type(row[0]), len(row)], [tuple, tuple, 2])
                self.assertTrue(model.is_amount(row[1]))

    def test_a_set_has_the_same_part_whoever_else_may_go(self):
        for web in (BOTH, PAIR) + LARGER[:1]:
            for to in web[0]:
                others = tuple(name for name in web[0] if name != to)
                whole = parts(web, others, to)
                for names in subsets(others):
                    self.assertEqual(parts(web, names, to), tuple(row for row in whole if set(row[0]) <= set(names)))

    def test_lots_together(self):
        for web in SMALL:
            for to in web[0] + ("chest",):
                names = tuple(name for name in web[0] if name != to)
                whole = {}
                for lot in {row[1] for row in web[1]}:
                    for gone, amount in parts(web, names, to, lot=lot):
                        whole[gone] = whole.get(gone, 0) + Fraction(*amount)
                self.assertEqual({gone: Fraction(*amount) for gone, amount in parts(web, names, to)}, whole)

    def test_eight_people(self):
        web = made(5, 8, density=0.2)
        rows = parts(web, EIGHT, "chest")
        self.assertEqual(sum(Fraction(*row[1]) for row in rows), Fraction(*has(web, EIGHT, "chest")))
        self.assertTrue(all(row[1][0] > 0 for row in rows))
        rows = parts(web, EIGHT[1:], "ann")
        self.assertEqual(sum(Fraction(*row[1]) for row in rows), Fraction(*has(web, EIGHT[1:], "ann")))


class TestMerits(Refusing):
    def test_written_out(self):
        self.assertEqual(merits(NOBODY, (), "chest"), ())
        self.assertEqual(merits(BOTH, (), "ann"), ())
        self.assertEqual(merits(ONE_ALONE, ("ann",), "chest"), (("ann", (3, 1)),))
        self.assertEqual(merits(ROW, ("ann", "ben"), "cat"), (("ann", (3, 1)), ("ben", (7, 2))))
        self.assertEqual(merits(ROW, ROW[0], "chest"), (("ann", (2, 1)), ("ben", (9, 4)), ("cat", (9, 4))))
        self.assertEqual(merits(ROW, ("ann", "cat"), "ben", lot="hay"), (("ann", (0, 1)), ("cat", (0, 1))))
        self.assertEqual(merits(ROW, ("ann", "cat"), "ben"), (("ann", (6, 1)), ("cat", (0, 1))))

    def test_each_part_is_parted_alike(self):
        for web, names, to, lot in each_question(SMALL + LARGER):
            rows = parts(web, names, to, lot=lot)
            wanted = tuple(
                (name, told(sum([Fraction(*amount) / len(gone) for gone, amount in rows if name in gone], Fraction(0))))
                for name in names
            )
            self.assertEqual(merits(web, names, to, lot=lot), wanted)

    def test_the_mean_over_all_turns(self):
        for web, names, to, lot in each_question(SMALL[:14]):
            won = dict.fromkeys(names, Fraction(0))
            turns = list(itertools.permutations(names))
            for turn in turns:
                behind = model.Model(web)
                for name in turn:
                    ahead = behind.held(to, lot)
                    won[name] += behind.go(name).held(to, lot) - ahead
            wanted = tuple((name, told(won[name] / len(turns))) for name in names)
            self.assertEqual(merits(web, names, to, lot=lot), wanted)

    def test_all_together_are_what_is_won_by_the_going_of_all(self):
        for web, names, to, lot in each_question(SMALL + LARGER):
            whole = sum([Fraction(*amount) for _, amount in merits(web, names, to, lot=lot)], Fraction(0))
            won = Fraction(*has(web, names, to, lot=lot)) - Fraction(*has(web, (), to, lot=lot))
            self.assertEqual(whole, won)

    def test_eight_people(self):
        web = made(5, 8, density=0.2)
        rows = merits(web, EIGHT, "chest")
        self.assertEqual([name for name, _ in rows], list(EIGHT))
        won = Fraction(*has(web, EIGHT, "chest")) - Fraction(*has(web, (), "chest"))
        self.assertEqual(sum(Fraction(*amount) for _, amount in rows), won)


class TestBoth(Refusing):
    def test_refusals(self):
        for call in (parts, merits):
            for thing in NO_WEBS + ODD_THINGS:
                self.no_web(thing, call, thing, (), "ann")
                self.no_web(thing, call, thing, None, None, lot=0)
            for names in NO_NAMES + ODD_THINGS:
                self.no_names(names, call, BOTH, names, "cat")
                self.no_names(names, call, BOTH, names, "zoe", lot="zzz")
            for to in ("zoe", "rye", "chests", ("ann",), ["ann"], (), 0) + ODD_THINGS:
                self.no_name(to, call, BOTH, (), to)
                self.no_name(to, call, BOTH, ("ann",), to, lot="zzz")
            self.no_name("ann", call, BOTH, ("ann",), "ann")
            self.no_name("dan", call, BOTH, BOTH[0], "dan", lot="zzz")
            for lot in NO_LOTS + ODD_THINGS[1:]:
                self.no_lot(lot, call, BOTH, ("ann",), "chest", lot=lot)
                self.no_lot(lot, call, BOTH, (), "ann", lot=lot)

    def test_interface(self):
        for call in (parts, merits):
            self.assertEqual(str(inspect.signature(call)), "(web, names, to, *, lot=None)")
            self.assertEqual(call.__module__, "thankways.parts")
            wanted = call(BOTH, ("ann", "ben"), "cat", lot="rye")
            self.assertEqual(call(lot="rye", to="cat", names=("ann", "ben"), web=BOTH), wanted)
            with self.assertRaises(TypeError):
                call(BOTH, ("ann",), "cat", "rye")
