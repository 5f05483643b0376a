"""Ways of a lot to somebody (points 2, 3 and 12)."""

import inspect
import itertools

from tests import model
from tests.model import subsets
from tests.refusing import Refusing
from tests.samples import ALL, BOTH, CHEST_ALONE, EIGHT, FULL, NO_WEBS, NOBODY, ONE, ONE_ALONE, PAIR, RING, ROW, SMALL, made
from tests.test_comes import NO_LOTS
from tests.things import ODD_THINGS
from thankways.ways import reached, way

MIDDLE = tuple(made(number, 5, lots=1, density=0.2) for number in range(8)) + (made(4, 5, density=0.4),)
# One alone holds some; some thanks lead on by more than one row.
SPARSE = tuple(
    (web[0], ((web[0][number % 5], "rye", ONE),), web[2])
    for number, web in enumerate(made(number, 5, density=0.3) for number in range(20))
)
# Two ways of as few people lead from ann to dan, and one more that is longer; eva holds some, too, further off.
FORKED = (
    ("ann", "ben", "cat", "dan", "eva", "fay"),
    (("ann", "rye", ONE), ("chest", "rye", ONE), ("eva", "rye", ONE)),
    (
        ("ann", "cat", ONE), ("ann", "chest", ONE), ("ann", "fay", ONE), ("ben", "dan", ONE), ("cat", "dan", ONE),
        ("eva", "fay", ONE), ("fay", "ben", ONE), ("fay", "dan", (1, 9)),
    ),
)


def lots_of(web):
    return sorted({row[1] for row in web[1]})


def all_ways(web, lot, to):
    """All ways of people each once, the fewer ahead, then rising: all turns of people are gone through."""
    holders = [row[0] for row in web[1] if row[1] == lot]
    thanks = {row[:2] for row in web[2]}
    for many in range(1, len(web[0]) + 1):
        for people in itertools.permutations(web[0], many):
            if people[0] in holders and people[-1] == to and thanks.issuperset(zip(people, people[1:])):
                yield people


def is_shut(web, lot, people):
    """Whether people hold all of a lot that isn't the chest's, and thank each other and the chest alone."""
    holders = {row[0] for row in web[1] if row[1] == lot} - {"chest"}
    return holders <= set(people) and all(row[1] in (*people, "chest") for row in web[2] if row[0] in people)


class TestWay(Refusing):
    def test_written_out(self):
        self.assertEqual(way(ONE_ALONE, "rye", "ann"), ("ann",))
        self.assertEqual(way(ROW, "rye", "ann"), ("ann",))
        self.assertEqual(way(ROW, "rye", "cat"), ("ann", "ben", "cat"))
        self.assertEqual(way(ROW, "wheat", "cat"), ("ben", "cat"))
        self.assertIsNone(way(ROW, "wheat", "ann"))
        for to in ROW[0]:
            # The chest alone holds it, and the chest thanks nobody.
            self.assertIsNone(way(ROW, "hay", to))
        for to in RING[0]:
            self.assertEqual(way(RING, "rye", to), (to,))
        ring = (RING[0], (("ben", "oats", ONE),), RING[2])
        self.assertEqual([way(ring, "oats", to) for to in ring[0]], [("ben", "cat", "ann"), ("ben",), ("ben", "cat")])
        self.assertEqual(way(PAIR, "oats", "eva"), ("eva",))
        self.assertIsNone(way(PAIR, "oats", "ann"))
        self.assertEqual(way(PAIR, "rye", "eva"), ("dan", "eva"))
        self.assertEqual(way(BOTH, "dan", "cat"), ("ben", "ann", "cat"))
        self.assertEqual(way(BOTH, "rye", "dan"), ("ann", "ben", "dan"))
        self.assertEqual(way(BOTH, "dan", "ann"), ("ben", "ann"))

    def test_of_several_of_as_few_people_the_least(self):
        self.assertEqual(way(FORKED, "rye", "dan"), ("ann", "cat", "dan"))
        # ann's ways to fay and eva's are of as few people.
        self.assertEqual(way(FORKED, "rye", "fay"), ("ann", "fay"))
        self.assertEqual(way(FORKED, "rye", "ben"), ("ann", "fay", "ben"))
        self.assertEqual(way(FORKED, "rye", "eva"), ("eva",))
        # The fewest go ahead of the least.
        fewer = (FORKED[0], (("ann", "rye", ONE), ("cat", "rye", (1, 7))), FORKED[2])
        self.assertEqual(way(fewer, "rye", "dan"), ("cat", "dan"))
        # The least first one, though another one's way goes on with lesser ones.
        crossed = (
            ("ann", "ben", "cat", "dan", "eva"), (("cat", "rye", ONE), ("dan", "rye", ONE)),
            (("ann", "eva", ONE), ("ben", "eva", ONE), ("cat", "ben", ONE), ("dan", "ann", ONE)),
        )
        self.assertEqual(way(crossed, "rye", "eva"), ("cat", "ben", "eva"))

    def test_the_least_of_the_shortest_of_all_ways(self):
        seen = set()
        for web in SMALL + MIDDLE + SPARSE:
            for lot in lots_of(web):
                for to in web[0]:
                    wanted = next(all_ways(web, lot, to), None)
                    self.assertEqual(way(web, lot, to), wanted, (web, lot, to))
                    seen.add(None if wanted is None else len(wanted))
        self.assertGreaterEqual(seen, {None, 1, 2, 3, 4})

    def test_there_is_one_just_where_some_comes_behind_some_goings(self):
        for web in SMALL + MIDDLE + SPARSE:
            for lot in lots_of(web):
                for to in web[0]:
                    others = [name for name in web[0] if name != to]
                    comes = any(model.after(web, gone).held(to, lot) > 0 for gone in subsets(others))
                    found = way(web, lot, to)
                    self.assertEqual(found is not None, comes)
                    if found is not None:
                        self.assertGreater(model.after(web, found[:-1]).held(to, lot), 0)

    def test_eight_people(self):
        self.assertEqual([way(FULL, "rye", to) for to in EIGHT], [(to,) for to in EIGHT])
        line = (EIGHT, (("ann", "rye", ONE),), tuple(zip(EIGHT, EIGHT[1:], [ONE] * 7)))
        for place, to in enumerate(EIGHT):
            self.assertEqual(way(line, "rye", to), EIGHT[:place + 1])
            self.assertEqual(way((EIGHT, (("hal", "rye", ONE),), line[2]), "rye", to), ("hal",) if to == "hal" else None)

    def test_refusals(self):
        for thing in NO_WEBS + ODD_THINGS:
            self.no_web(thing, way, thing, "rye", "ann")
            self.no_web(thing, way, thing, None, "zoe")
            self.no_web(thing, way, to=None, lot=[], web=thing)
        for lot in NO_LOTS + ODD_THINGS:
            self.no_lot(lot, way, BOTH, lot, "ann")
            self.no_lot(lot, way, BOTH, lot, "zoe")
            self.no_lot(lot, way, NOBODY, lot, None)
        for to in ("zoe", "rye", "chest", "chests", "", "Ann", ("ann",), ["ann"], (), 0) + ODD_THINGS:
            self.no_name(to, way, BOTH, "rye", to)
        self.no_name("ann", way, CHEST_ALONE, "rye", "ann")

    def test_interface(self):
        self.assertEqual(str(inspect.signature(way)), "(web, lot, to)")
        self.assertEqual(way.__module__, "thankways.ways")
        self.assertEqual(way(to="cat", lot="wheat", web=ROW), ("ben", "cat"))


class TestReached(Refusing):
    def test_written_out(self):
        self.assertEqual(reached(ROW, "rye"), ("ann", "ben", "cat"))
        self.assertEqual(reached(ROW, "wheat"), ("ben", "cat"))
        self.assertEqual(reached(ROW, "hay"), ())
        self.assertEqual(reached(CHEST_ALONE, "rye"), ())
        self.assertEqual(reached(ONE_ALONE, "rye"), ("ann",))
        self.assertEqual(reached(PAIR, "rye"), ("ann", "ben", "dan", "eva"))
        self.assertEqual(reached(PAIR, "wheat"), ("ann", "ben"))
        self.assertEqual(reached(PAIR, "oats"), ("eva",))
        self.assertEqual(reached(FORKED, "rye"), FORKED[0])

    def test_all_to_whom_there_is_a_way(self):
        for web in ALL + MIDDLE + SPARSE:
            for lot in lots_of(web):
                people = reached(web, lot)
                self.assertEqual(people, tuple(to for to in web[0] if way(web, lot, to) is not None))
                # Behind the others there is a shut set, whoever is not reached.
                self.assertTrue(is_shut(web, lot, people))

    def test_refusals(self):
        for thing in NO_WEBS + ODD_THINGS:
            self.no_web(thing, reached, thing, "rye")
            self.no_web(thing, reached, lot=None, web=thing)
        for lot in NO_LOTS + ODD_THINGS:
            self.no_lot(lot, reached, BOTH, lot)
            self.no_lot(lot, reached, lot=lot, web=CHEST_ALONE)

    def test_interface(self):
        self.assertEqual(str(inspect.signature(reached)), "(web, lot)")
        self.assertEqual(reached.__module__, "thankways.ways")
        self.assertEqual(reached(lot="wheat", web=ROW), ("ben", "cat"))
