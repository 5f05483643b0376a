"""Shares, and who is stuck (points 2 and 9)."""

import inspect
from fractions import Fraction

from tests import model
from tests.model import subsets, told, turns_of
from tests.refusing import Refusing
from tests.samples import ALL, BOTH, FULL, NO_WEBS, NOBODY, ONE_ALONE, PAIR, RING, ROW, SMALL
from tests.test_goings import NO_NAMES, some_sets
from tests.things import ODD_THINGS
from thankways.goings import after
from thankways.shares import shares, stuck
from thankways.webs import is_web


def kept(web, names):
    """Of names those from whom thanks lead to one who isn't of them: found from the ends of all rows of thanks."""
    out = {row[0] for row in web[2] if row[0] in names and row[1] not in names}
    for _ in names:
        out |= {row[0] for row in web[2] if row[0] in names and row[1] in out}
    return out


def by_model(web, turn, name):
    """Where one measure of one who goes comes to, by going in a turn."""
    tracer = (web[0], ((name, "measure", (1, 1)),), web[2])
    return tuple((row[0], row[2]) for row in model.after(tracer, turn).web()[1])


class TestShares(Refusing):
    def test_written_out(self):
        self.assertEqual(shares(NOBODY, ()), ())
        self.assertEqual(shares(BOTH, ()), ())
        self.assertEqual(shares(ONE_ALONE, ("ann",)), ((("chest", (1, 1)),),))
        self.assertEqual(shares(ROW, ("ann", "ben")), ((("cat", (1, 1)),), (("cat", (1, 1)),)))
        self.assertEqual(shares(ROW, ROW[0]), ((("chest", (1, 1)),),) * 3)
        self.assertEqual(shares(BOTH, ("ben",)), ((("ann", (1, 2)), ("chest", (1, 4)), ("dan", (1, 4))),))
        self.assertEqual(shares(PAIR, ("dan",)), ((("ann", (1, 3)), ("eva", (2, 3))),))

    def test_of_those_who_thank_one_another(self):
        # ann: 3/5 to ben, 2/5 to cat; ben: 1/2 back to ann, 1/4 to the chest and to dan each.
        self.assertEqual(shares(BOTH, ("ann", "ben")), (
            (("cat", (4, 7)), ("chest", (3, 14)), ("dan", (3, 14))),
            (("cat", (2, 7)), ("chest", (5, 14)), ("dan", (5, 14))),
        ))

    def test_of_the_stuck_and_of_those_who_lead_to_them(self):
        self.assertEqual(shares(RING, RING[0]), ((("chest", (1, 1)),),) * 3)
        self.assertEqual(shares(PAIR, ("ann", "ben", "dan")), (
            (("chest", (1, 1)),), (("chest", (1, 1)),), (("chest", (1, 3)), ("eva", (2, 3))),
        ))

    def test_in_each_turn(self):
        for web in SMALL:
            for names in subsets(web[0]):
                rows = shares(web, names)
                self.assertEqual(len(rows), len(names))
                for name, row in zip(names, rows):
                    for turn in turns_of(names):
                        self.assertEqual(row, by_model(web, turn, name))

    def test_many_people(self):
        for web in ALL:
            for names in some_sets(web):
                for name, row in zip(names, shares(web, names)):
                    self.assertEqual(row, by_model(web, names, name))

    def test_what_point_9_says_of_them(self):
        for web in ALL:
            thanks = {row[:2]: Fraction(*row[2]) for row in web[2]}
            for names in some_sets(web):
                rows = dict(zip(names, [{to: Fraction(*share) for to, share in row} for row in shares(web, names)]))
                held_up = stuck(web, names)
                for name in names:
                    self.assertEqual(sum(rows[name].values()), 1)
                    self.assertTrue(all(share > 0 for share in rows[name].values()))
                    self.assertEqual(set(rows[name]) & set(names), set())
                    if name in held_up:
                        self.assertEqual(rows[name], {"chest": 1})
                        continue
                    whole = sum(amount for (who, _), amount in thanks.items() if who == name)
                    for to in web[0] + ("chest",):
                        if to not in names:
                            wanted = sum(
                                amount / whole * (rows[by].get(to, 0) if by in names else by == to)
                                for (who, by), amount in thanks.items() if who == name
                            )
                            self.assertEqual(rows[name].get(to, 0), wanted)

    def test_what_goes_comes_by_shares(self):
        for web in ALL:
            for names in some_sets(web):
                mirror, behind = model.Model(web), model.Model(after(web, names))
                rows = dict(zip(names, shares(web, names)))
                for to in behind.people | {"chest"}:
                    for lot in mirror.lots():
                        comes = sum(mirror.held(name, lot) * Fraction(*dict(rows[name]).get(to, (0, 1))) for name in names)
                        self.assertEqual(mirror.held(to, lot) + comes, behind.held(to, lot))

    def test_what_is_told_rises_and_is_plain(self):
        for web in ALL:
            for names in some_sets(web):
                told_rows = shares(web, names)
                self.assertIs(type(told_rows), tuple)
                for row in told_rows:
                    self.assertIs(type(row), tuple)
                    self.assertEqual(list(row), sorted(row))
                    # Each row is as the goods of one lot are, so that the form can be asked of a web.
                    self.assertIs(is_web((web[0], tuple((to, "a", share) for to, share in row), ())), True)

    def test_large_amounts(self):
        large = 10 ** 400 + 1
        web = (("ann", "ben", "cat"), (), (
            ("ann", "ben", (large, 1)), ("ann", "cat", (1, large)), ("ben", "ann", (1, 1)), ("ben", "chest", (1, large)),
        ))
        self.assertEqual(shares(web, ("ann",)), ((
            ("ben", told(1 - Fraction(1, large ** 2 + 1))), ("cat", (1, large ** 2 + 1)),
        ),))
        self.assertEqual(shares(web, ("ann", "ben"))[0], by_model(web, ("ben", "ann"), "ann"))

    def test_refusals(self):
        for call in (shares, stuck):
            for thing in NO_WEBS + ODD_THINGS:
                self.no_web(thing, call, thing, ())
                self.no_web(thing, call, thing, thing)
            for names in NO_NAMES + ODD_THINGS:
                self.no_names(names, call, BOTH, names)
                self.no_names(names, call, names=names, web=BOTH)

    def test_interface(self):
        for call in (shares, stuck):
            self.assertEqual(str(inspect.signature(call)), "(web, names)")
            self.assertEqual(call.__module__, "thankways.shares")
            self.assertEqual(call(names=("ann",), web=BOTH), call(BOTH, ("ann",)))


class TestStuck(Refusing):
    def test_written_out(self):
        self.assertEqual(stuck(NOBODY, ()), ())
        self.assertEqual(stuck(ONE_ALONE, ("ann",)), ("ann",))
        self.assertEqual(stuck(RING, RING[0]), RING[0])
        self.assertEqual(stuck(RING, ("ann", "ben")), ())
        self.assertEqual(stuck(PAIR, ("ann", "ben")), ("ann", "ben"))
        self.assertEqual(stuck(PAIR, ("ann", "ben", "dan")), ("ann", "ben"))
        self.assertEqual(stuck(PAIR, PAIR[0]), PAIR[0])
        self.assertEqual(stuck(PAIR, ("eva",)), ("eva",))
        self.assertEqual(stuck(PAIR, ("ann",)), ())

    def test_the_chest_is_none_of_names(self):
        self.assertEqual(stuck(ROW, ROW[0]), ())
        self.assertEqual(stuck(ROW, ("cat",)), ())
        self.assertEqual(stuck(BOTH, BOTH[0]), ())
        self.assertEqual(stuck(FULL, FULL[0]), ())

    def test_long_rows_of_thanks(self):
        people = FULL[0]
        thanks = [(one, other, (1, 1)) for one, other in zip(people, people[1:])]
        self.assertEqual(stuck((people, (), tuple(thanks)), people), people)
        self.assertEqual(stuck((people, (), tuple(thanks)), people[:-1]), ())
        self.assertEqual(stuck((people, (), tuple(thanks + [("hal", "chest", (1, 1))])), people), ())
        back = sorted((other, one, (1, 1)) for one, other in zip(people, people[1:]))
        self.assertEqual(stuck((people, (), tuple(back)), people), people)
        self.assertEqual(stuck((people, (), tuple(back)), people[1:]), ())
        self.assertEqual(stuck((people, (), tuple(sorted(back + thanks))), people[2:6]), ())

    def test_of_all_sets(self):
        for web in ALL:
            for names in some_sets(web):
                out = kept(web, names)
                held_up = stuck(web, names)
                self.assertIs(type(held_up), tuple)
                self.assertEqual(held_up, tuple(name for name in names if name not in out))
                self.assertEqual(shares(web, held_up), ((("chest", (1, 1)),),) * len(held_up))
