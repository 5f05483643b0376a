"""Goings (points 2, 3 and 8)."""

import copy
import inspect
import itertools
from fractions import Fraction

from tests import model
from tests.model import subsets, told, turns_of
from tests.refusing import Refusing
from tests.samples import (
    ALL, BOTH, CHEST_ALONE, EIGHT, FULL, LONG_NAMES, MADE, NO_WEBS, NOBODY, ONE_ALONE, PAIR, RING, ROW, SMALL, WRITTEN,
)
from tests.things import ODD_THINGS
from thankways.goings import after
from thankways.webs import held, is_web

NO_NAMES = (
    ("ben", "ann"), ("ann", "ann"), ("ann", "ben", "ben"), ("zoe",), ("ann", "zoe"), ("aaa", "ann"), ("chest",),
    ("ann", "chest"), ("rye",), ["ann"], [], {}, {"ann": 1}, {"ann"}, "ann", "", "a", (("ann",),), ("ann", None),
    (None,), (True,), (0,), ("Ann",), ("",), (["ann"],), None, True, 0, 1, ("ann", "ben", "cat", "dan", "dan"),
    ("dan", "cat", "ben", "ann"), ("ann", "cat", "ben"),
)


def some_sets(web):
    """All sets of few people, of many some."""
    sets = subsets(web[0])
    return sets if len(sets) <= 32 else sets[::17] + sets[-1:]


class TestAfter(Refusing):
    def test_nobody_goes(self):
        for web in ALL:
            self.assertEqual(after(web, ()), web)
        self.assertEqual(after(NOBODY, ()), NOBODY)
        self.assertEqual(after(CHEST_ALONE, ()), CHEST_ALONE)

    def test_written_out(self):
        self.assertEqual(after(ROW, ("ben",)), (
            ("ann", "cat"),
            (("ann", "rye", (6, 1)), ("cat", "wheat", (1, 2)), ("chest", "hay", (2, 3))),
            (("ann", "cat", (1, 1)), ("cat", "chest", (2, 1))),
        ))
        self.assertEqual(after(BOTH, ("ann",)), (
            ("ben", "cat", "dan"),
            (
                ("ben", "ann", (36, 5)), ("ben", "dan", (7, 2)), ("ben", "rye", (3, 1)), ("cat", "ann", (24, 5)),
                ("cat", "rye", (2, 1)), ("chest", "rye", (1, 7)),
            ),
            (
                # What ben would thank itself for, 6/5, is struck.
                ("ben", "cat", (4, 5)), ("ben", "chest", (1, 1)), ("ben", "dan", (1, 1)), ("cat", "ben", (29997, 5)),
                ("dan", "chest", (1, 9)),
            ),
        ))

    def test_who_thanks_nobody_leaves_all_to_the_chest(self):
        self.assertEqual(after(ONE_ALONE, ("ann",)), ((), (("chest", "rye", (3, 1)),), ()))
        self.assertEqual(after(PAIR, ("eva",)), (
            ("ann", "ben", "dan"),
            (("ann", "rye", (4, 1)), ("ben", "wheat", (2, 1)), ("chest", "oats", (1, 1)), ("dan", "rye", (6, 1))),
            (("ann", "ben", (3, 1)), ("ben", "ann", (1, 4)), ("dan", "ann", (1, 1)), ("dan", "chest", (2, 1))),
        ))

    def test_what_one_would_thank_itself_for_is_struck(self):
        self.assertEqual(after(PAIR, ("ann",)), (
            ("ben", "dan", "eva"),
            (("ben", "rye", (4, 1)), ("ben", "wheat", (2, 1)), ("dan", "rye", (6, 1)), ("eva", "oats", (1, 1))),
            (("dan", "ben", (1, 1)), ("dan", "eva", (2, 1))),
        ))
        self.assertEqual(after(PAIR, ("ann", "ben")), (
            ("dan", "eva"),
            (("chest", "rye", (4, 1)), ("chest", "wheat", (2, 1)), ("dan", "rye", (6, 1)), ("eva", "oats", (1, 1))),
            (("dan", "chest", (1, 1)), ("dan", "eva", (2, 1))),
        ))

    def test_thanks_of_those_who_stay_come_together(self):
        web = (("ann", "ben", "cat"), (), (("ann", "ben", (1, 2)), ("ann", "cat", (1, 3)), ("ben", "cat", (7, 1))))
        self.assertEqual(after(web, ("ben",)), (("ann", "cat"), (), (("ann", "cat", (5, 6)),)))
        web = (("ann", "ben"), (), (("ann", "ben", (1, 2)), ("ann", "chest", (1, 3)), ("ben", "chest", (7, 1))))
        self.assertEqual(after(web, ("ben",)), (("ann",), (), (("ann", "chest", (5, 6)),)))

    def test_all_go(self):
        for web in ALL:
            people, goods, thanks = after(web, web[0])
            self.assertEqual((people, thanks), ((), ()))
            self.assertEqual({row[0] for row in goods} - {"chest"}, set())
        self.assertEqual(after(RING, RING[0]), ((), (("chest", "rye", (11, 6)),), ()))

    def test_in_each_turn_and_all_at_once(self):
        for web in SMALL:
            for names in subsets(web[0]):
                once = after(web, names)
                for turn in turns_of(names):
                    self.assertEqual(once, model.after(web, turn).web(), (web, turn))
                    behind = web
                    for name in turn:
                        behind = after(behind, (name,))
                    self.assertEqual(behind, once, (web, turn))

    def test_many_people_in_some_turns(self):
        for web in MADE + (FULL,):
            for names in some_sets(web):
                once = after(web, names)
                for turn in turns_of(names, 3):
                    self.assertEqual(once, model.after(web, turn).web())

    def test_in_two_goes(self):
        for web in WRITTEN + (FULL,):
            for names in some_sets(web):
                once = after(web, names)
                for some in subsets(names)[:20]:
                    others = tuple(name for name in names if name not in some)
                    self.assertEqual(after(after(web, some), others), once)

    def test_nothing_is_lost(self):
        for web in ALL:
            for names in some_sets(web):
                behind = after(web, names)
                for lot in {row[1] for row in web[1]}:
                    there = sum(Fraction(*row[2]) for row in web[1] if row[1] == lot)
                    self.assertEqual(sum(Fraction(*row[2]) for row in behind[1] if row[1] == lot), there)

    def test_more_goings_never_bring_one_who_stays_less(self):
        for web in SMALL:
            for names, more in itertools.product(subsets(web[0]), web[0]):
                if more not in names:
                    fewer, further = after(web, names), after(web, tuple(sorted(names + (more,))))
                    for to in further[0] + ("chest",):
                        self.assertLessEqual(Fraction(*held(fewer, to)), Fraction(*held(further, to)))

    def test_what_is_told_is_a_web_of_plain_kinds_and_may_be_handed_in(self):
        for web in ALL:
            for names in some_sets(web):
                behind = after(web, names)
                self.assertTrue(model.is_web(behind))
                self.assertIs(is_web(behind), True)
                self.assertEqual(after(behind, ()), behind)

    def test_very_many_figures(self):
        behind = after(LONG_NAMES, ("zzzzzzzz",))
        self.assertEqual(behind, model.after(LONG_NAMES, ("zzzzzzzz",)).web())
        self.assertTrue(is_web(behind))

    def test_scales_of_thanks_do_not_change_what_comes(self):
        thanks = tuple((name, to, told(Fraction(*amount) * (7 if name == "ben" else 1))) for name, to, amount in BOTH[2])
        for names in subsets(BOTH[0]):
            self.assertEqual(after((BOTH[0], BOTH[1], thanks), names)[1], after(BOTH, names)[1])

    def test_refusals(self):
        for thing in NO_WEBS + ODD_THINGS:
            self.no_web(thing, after, thing, ())
            self.no_web(thing, after, thing, thing)
            self.no_web(thing, after, names=None, web=thing)
        for names in NO_NAMES + ODD_THINGS + tuple((thing,) for thing in ODD_THINGS):
            self.no_names(names, after, BOTH, names)
            self.no_names(names, after, names=names, web=BOTH)
        names = ("ann",)
        self.no_names(names, after, NOBODY, names)
        names = EIGHT + ("ida",)
        self.no_names(names, after, FULL, names)

    def test_interface(self):
        self.assertEqual(str(inspect.signature(after)), "(web, names)")
        self.assertEqual(after.__module__, "thankways.goings")
        self.assertEqual(after(names=("ann",), web=BOTH), after(BOTH, ("ann",)))

    def test_what_is_handed_in_stays_as_it_was(self):
        web, names = [list(part) for part in BOTH], ["ann"]
        before = copy.deepcopy((web, names))
        self.no_web(web, after, web, names)
        self.no_names(names, after, BOTH, names)
        self.assertEqual((web, names), before)
