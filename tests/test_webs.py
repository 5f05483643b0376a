"""Webs (points 2 and 6)."""

import inspect
from collections import namedtuple
from fractions import Fraction

from tests import model
from tests.model import told
from tests.refusing import Refusing
from tests.samples import (
    ALL, BOTH, EIGHT, EIGHT_LOTS, FULL, HUGE, LARGE, NO_WEBS, NOBODY, ONE, ONE_ALONE, PAIR, ROW, WRITTEN,
)
from tests.things import ODD_THINGS
from thankways import errors
from thankways.webs import held, is_web, thanked

NO_AMOUNTS = (
    (0, 1), (-1, 1), (-1, 2), (2, 4), (2, 2), (1, 0), (0, 0), (1, -1), (-1, -1), (1,), (1, 2, 3), (), [1, 2], 1, 2,
    "1", "1/2", (True, 1), (1, True), (1, None), ("1", 1), ((1, 1), 1), None, True, 0, {1: 2}, (LARGE, LARGE),
    (2 * LARGE, 2),
)
AMOUNTS = ((1, 1), (1, 2), (7, 3), (9999, 1), (1, 9999), (LARGE, LARGE + 1), (HUGE, 1), (1, HUGE), (HUGE, HUGE + 1))


def swapped(rows, place):
    return rows[:place] + (rows[place + 1], rows[place]) + rows[place + 2:]


def with_part(row, place, part):
    return row[:place] + (part,) + row[place + 1:]


def disturbed(thing, depth=0):
    """Things that stand near a tuple: parts left out, twice, exchanged, beside each other, of other kinds."""
    yield list(thing)
    for place, part in enumerate(thing):
        yield thing[:place] + thing[place + 1:]
        yield thing[:place] + (part,) + thing[place:]
        if place + 1 < len(thing):
            yield swapped(thing, place)
        for other in (None, True, 0, 1, -1, 2, "", "ann", "ben", "zoe", "chest", "Ann", b"ann", (), [], {}, (0, 1)):
            yield with_part(thing, place, other)
            yield thing[:place] + (other,) + thing[place:]
        if isinstance(part, tuple) and depth < 4:
            for other in disturbed(part, depth + 1):
                yield with_part(thing, place, other)
    yield thing + ("zoe",)
    yield thing + (None,)


class TestIsWeb(Refusing):
    def test_webs(self):
        for web in ALL:
            self.assertIs(is_web(web), True, web)
            self.assertIs(is_web(thing=web), True)

    def test_no_webs(self):
        for thing in NO_WEBS + ODD_THINGS:
            self.assertIs(is_web(thing), False)

    def test_odd_things_at_each_place(self):
        for web in (ROW, BOTH):
            for thing in ODD_THINGS:
                for part in range(3):
                    self.assertIs(is_web(with_part(web, part, thing)), False)
                    for place, row in enumerate(web[part]):
                        self.assertIs(is_web(with_part(web, part, with_part(web[part], place, thing))), False)
                        for at in range(len(row) if part else 0):
                            rows = with_part(web[part], place, with_part(row, at, thing))
                            self.assertIs(is_web(with_part(web, part, rows)), False)

    def test_what_stands_near_a_web(self):
        seen = {True: 0, False: 0}
        for web in WRITTEN[1:]:
            for thing in disturbed(web):
                wanted = model.is_web(thing)
                seen[wanted] += 1
                self.assertIs(is_web(thing), wanted, thing)
        self.assertGreater(min(seen.values()), 100)

    def test_how_many_people_and_lots(self):
        self.assertIs(is_web((EIGHT, (), ())), True)
        for more in ("aaa", "ida", "cal"):
            self.assertIs(is_web((tuple(sorted(EIGHT + (more,))), (), ())), False)
        goods = tuple(("ann", lot, ONE) for lot in EIGHT_LOTS)
        self.assertIs(is_web((("ann",), goods, ())), True)
        self.assertIs(is_web((("ann",), goods + (("ann", "zzz", ONE),), ())), False)
        self.assertIs(is_web((("ann",), goods + (("chest", "zzz", ONE),), ())), False)
        self.assertIs(is_web((("ann",), goods + (("chest", "wheat", ONE),), ())), True)
        self.assertEqual(len({row[1] for row in FULL[1]}), 8)
        self.assertIs(is_web(FULL), True)

    def test_letters_of_names(self):
        for name, wanted in (("a", True), ("abcdefgh", True), ("abcdefghi", False), ("", False), ("chest", False)):
            self.assertIs(is_web(((name,), (), ())), wanted)
            self.assertIs(is_web((("ann",), (("ann", name, ONE),), ())), wanted)

    def test_amounts(self):
        for amount in AMOUNTS:
            self.assertIs(is_web((("ann",), (("ann", "rye", amount),), ())), True)
            self.assertIs(is_web((("ann", "ben"), (), (("ann", "ben", amount),))), True)
        for amount in NO_AMOUNTS:
            self.assertIs(is_web((("ann",), (("ann", "rye", amount),), ())), False)
            self.assertIs(is_web((("ann", "ben"), (), (("ann", "ben", amount),))), False)

    def test_rows_that_do_not_rise_or_are_doubled(self):
        low, high = ("ann", "rye", (1, 2)), ("ann", "rye", (3, 2))
        self.assertIs(is_web((("ann",), (low,), ())), True)
        for goods in ((low, low), (low, high), (high, low)):
            self.assertIs(is_web((("ann",), goods, ())), False)
        low, high = ("ann", "ben", (1, 2)), ("ann", "ben", (3, 2))
        for thanks in ((low, low), (low, high), (high, low)):
            self.assertIs(is_web((("ann", "ben"), (), thanks)), False)
        for part in range(3):
            for place in range(len(BOTH[part]) - 1):
                self.assertIs(is_web(with_part(BOTH, part, swapped(BOTH[part], place))), False)

    def test_who_may_hold_and_thank(self):
        people = ("ann", "ben")
        for holder, wanted in (("ann", True), ("chest", True), ("cat", False), ("rye", False)):
            self.assertIs(is_web((people, ((holder, "rye", ONE),), ())), wanted)
        for name, to, wanted in (
            ("ann", "ben", True), ("ben", "ann", True), ("ann", "chest", True), ("ann", "ann", False),
            ("chest", "ann", False), ("chest", "chest", False), ("cat", "ann", False), ("ann", "cat", False),
        ):
            self.assertIs(is_web((people, (), ((name, to, ONE),))), wanted, (name, to))
        self.assertIs(is_web(((), (), (("chest", "chest", ONE),))), False)

    def test_tuples_of_a_class_of_its_own_are_tuples(self):
        row = namedtuple("row", "holder lot amount")
        self.assertIs(is_web((("ann",), (row("ann", "rye", ONE), row("chest", "rye", ONE)), ())), True)
        self.assertIs(is_web((("ann",), (row("ann", "rye", ONE), row("ann", "rye", ONE)), ())), False)


class TestHeld(Refusing):
    def test_of_each_holder_each_lot_and_all(self):
        for web in ALL:
            mirror = model.Model(web)
            for holder in web[0] + ("chest",):
                self.assertEqual(held(web, holder), told(mirror.held(holder)))
                for lot in {row[1] for row in web[1]}:
                    self.assertEqual(held(web, holder, lot=lot), told(mirror.held(holder, lot)))

    def test_written_out(self):
        self.assertEqual(held(BOTH, "ann"), (17, 1))
        self.assertEqual(held(BOTH, "ann", lot=None), (17, 1))
        self.assertEqual(held(BOTH, "ann", lot="ann"), (12, 1))
        self.assertEqual(held(BOTH, "ann", lot="dan"), (0, 1))
        self.assertEqual(held(BOTH, "dan"), (0, 1))
        self.assertEqual(held(BOTH, "chest"), (1, 7))
        self.assertEqual(held(web=BOTH, holder="ben", lot="dan"), (7, 2))
        self.assertEqual(held((("ann",), (("ann", "a", (1, 6)), ("ann", "b", (1, 3))), ()), "ann"), (1, 2))
        self.assertEqual(held(NOBODY, "chest"), (0, 1))

    def test_refusals(self):
        for thing in NO_WEBS + ODD_THINGS:
            self.no_web(thing, held, thing, "ann")
            self.no_web(thing, held, thing, None, lot=[])
        for holder in ("zoe", "rye", "Chest", ("ann",), ["ann"], 0, ()) + ODD_THINGS:
            self.no_name(holder, held, BOTH, holder)
            self.no_name(holder, held, BOTH, holder, lot="zzz")
            self.no_name(holder, held, holder=holder, web=BOTH)
        for lot in ("zzz", "cat", "ben", "chest", ("rye",), ["rye"], 0, False, ()) + ODD_THINGS[1:]:
            self.no_lot(lot, held, BOTH, "ann", lot=lot)
            self.no_lot(lot, held, BOTH, "chest", lot=lot)
        self.no_lot("rye", held, NOBODY, "chest", lot="rye")
        self.no_name("ann", held, NOBODY, "ann")

    def test_lot_by_its_name_alone(self):
        self.assertEqual(str(inspect.signature(held)), "(web, holder, *, lot=None)")
        with self.assertRaises(TypeError):
            held(BOTH, "ann", "rye")
        self.assertEqual(held.__module__, "thankways.webs")


class TestThanked(Refusing):
    def test_of_each_towards_each(self):
        for web in ALL:
            mirror = model.Model(web)
            for name in web[0]:
                for to in web[0] + ("chest",):
                    wanted = told(mirror.thanks.get((name, to), Fraction(0)))
                    self.assertEqual(thanked(web, name, to), wanted)

    def test_written_out(self):
        self.assertEqual(thanked(BOTH, "ben", "ann"), (2, 1))
        self.assertEqual(thanked(BOTH, "ben", "chest"), (1, 1))
        self.assertEqual(thanked(BOTH, "ben", "ben"), (0, 1))
        self.assertEqual(thanked(BOTH, "cat", "ben"), (0, 1))
        self.assertEqual(thanked(to="chest", name="dan", web=BOTH), (1, 9))
        self.assertEqual(thanked(ONE_ALONE, "ann", "chest"), (0, 1))

    def test_refusals(self):
        for thing in NO_WEBS + ODD_THINGS:
            self.no_web(thing, thanked, thing, "ann", "ben")
            self.no_web(thing, thanked, thing, thing, None)
        for name in ("zoe", "rye", "chests", ("ann",), ["ann"], 0, ()) + ODD_THINGS:
            self.no_name(name, thanked, PAIR, name, "ann")
            self.no_name(name, thanked, PAIR, "ann", name)
            self.no_name(name, thanked, PAIR, name, "zzz")
            self.no_name(name, thanked, PAIR, name=name, to=[])
        self.no_name("chest", thanked, PAIR, "chest", "ann")
        self.no_name("chest", thanked, PAIR, "chest", "chest")
        self.no_name("chest", thanked, NOBODY, "chest", "ann")

    def test_interface(self):
        self.assertEqual(str(inspect.signature(thanked)), "(web, name, to)")
        self.assertEqual(str(inspect.signature(is_web)), "(thing)")
        for function in (is_web, thanked):
            self.assertEqual(function.__module__, "thankways.webs")
        self.assertTrue(issubclass(errors.NoWeb, errors.ThankError))
