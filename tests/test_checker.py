"""The checker (points 2, 3 and 18)."""

import copy
import inspect
import random
import unittest
from fractions import Fraction

from tests.model import subsets, told
from tests.refusing import picture
from tests.samples import BOTH, CHEST_ALONE, EIGHT, FULL, HUGE, NO_WEBS, NOBODY, ONE, ONE_ALONE, PAIR, RING, ROW, SMALL
from tests.spoiling import put_otherwise
from tests.test_thanks import KNOT, SHUT
from tests.things import ODD_THINGS, nested
from tests.truth import (
    CLAIMS, amount_of, fewest_of, grounds, is_so, lots_of, openings, others_of, paper_of, part_of, takes, ways, with_alone,
    with_more,
)
from thankways.checker import holds

SOME = (RING, PAIR, BOTH, CHEST_ALONE, ONE_ALONE, ROW, KNOT, SHUT) + SMALL[9::3]
STUCK, OUT = ((0, 1), None), ((1, 1), None)


def some_lots(web):
    return (None, *sorted(lots_of(web)))[:2]


def claims_of_comings(web):
    for names in subsets(web[0]):
        for to in others_of(web, None) + ("chest",):
            if to not in names:
                for lot in some_lots(web):
                    yield ("has", web, names, to, lot, told(amount_of(web, names, to, lot)))
                    yield ("part", web, to, lot, names, told(part_of(web, to, lot, names)))


def claims_of_ways(web):
    for to in web[0]:
        for lot in sorted(lots_of(web)):
            yield from (("can", web, lot, to), ("never", web, lot, to))


def claims_of_goings(web):
    for to in web[0]:
        for lot in some_lots(web):
            reached = sorted({amount_of(web, gone, to, lot) for gone in subsets(others_of(web, to))})
            for amount in {*reached[:2], *reached[-2:], reached[-1] + Fraction(1, 9), Fraction(-1), Fraction(0)}:
                how = fewest_of(web, to, lot, amount)
                if how is None:
                    yield ("too much", web, to, lot, told(amount))
                else:
                    yield ("fewest", web, to, lot, told(amount), how)


def claims_of_thanks(web):
    for names in subsets(web[0]):
        for to in others_of(web, None):
            for by in names if to not in names else ():
                for lot in some_lots(web)[:1]:
                    yield from claims_of_thank(web, names, by, to, lot)


def claims_of_thank(web, names, by, to, lot):
    asked = (web, names, by, to, lot)
    most = amount_of(with_alone(web, by, to), names, to, lot)
    for least in (Fraction(2), Fraction(1, 7)):
        yield ("thank", *asked, told(amount_of(with_more(web, by, to, least), names, to, lot)), told(least))
    for amount in (most, most + 1, most - Fraction(1, 50)):
        yield from (("any thank", *asked, told(amount)), ("no thank", *asked, told(amount)))


def true_claims(web):
    """Claims of all words about a web that are so."""
    for claims in (claims_of_comings, claims_of_ways, claims_of_goings, claims_of_thanks):
        yield from (claim for claim in claims(web) if is_so(claim))


class Checking(unittest.TestCase):
    def taken(self, claim, paper):
        self.assertIs(holds(claim, paper), True, (claim, paper))

    def not_taken(self, claim, paper):
        self.assertIs(holds(claim, paper), False, (claim, paper))

    def none_taken(self, claim, papers):
        for paper in papers:
            self.not_taken(claim, paper)


class TestComings(Checking):
    def test_has(self):
        self.taken(("has", NOBODY, (), "chest", None, (0, 1)), ())
        self.taken(("has", CHEST_ALONE, (), "chest", "rye", (5, 2)), ())
        self.taken(("has", ROW, (), "ann", None, (6, 1)), ())
        self.taken(("has", ROW, ("ann",), "ben", "rye", (6, 1)), (((1, 1), 1),))
        self.taken(("has", ROW, ("ann",), "cat", None, (0, 1)), (((0, 1), 1),))
        self.taken(("has", ROW, ("ann", "ben"), "cat", None, (13, 2)), (((1, 1), 2), ((1, 1), 1)))
        self.taken(("has", ROW, ROW[0], "chest", "rye", (6, 1)), (((1, 1), 3), ((1, 1), 2), ((1, 1), 1)))
        self.taken(("has", BOTH, ("ann",), "cat", "ann", (24, 5)), (((2, 5), 1),))
        self.none_taken(("has", ROW, ("ann",), "ben", "rye", (6, 1)), (
            (), (((1, 1), 2),), (((1, 1), None),), (((1, 1), 0),), (((1, 2), 1),), (((2, 2), 1),), (((1, 1), True),),
            (((True, 1), 1),), [((1, 1), 1)], ([(1, 1), 1],), (([1, 1], 1),), (((1, 1), 1),) * 2, ((1, 1),), None, "",
            (((1, 1), (1, 1)),), (((1, 1), 1, 1),), {("ann"): ((1, 1), 1)}, (1,), (((0, 1), 1),), (((3, 2), 1),),
        ))
        for amount in ((5, 1), (7, 1), (12, 2), [6, 1], 6, (6,), None, (6, True), (-6, 1)):
            self.not_taken(("has", ROW, ("ann",), "ben", "rye", amount), (((1, 1), 1),))

    def test_those_who_are_stuck(self):
        # Who thanks nobody leaves to the chest.
        claim = ("has", ONE_ALONE, ("ann",), "chest", None, (3, 1))
        self.taken(claim, (OUT,))
        self.none_taken(claim, ((STUCK,), (((1, 1), 1),), (((0, 1), 1),)))
        # All that a shut ring holds is the chest's; SHAREs that fit around it are none without STEPS that do.
        names, ring = RING[0][:2], (RING[0], RING[1], RING[2][:1] + (("ben", "ann", (2, 1)),))
        self.taken(("has", ring, names, "cat", None, (1, 3)), (STUCK, STUCK))
        self.taken(("has", ring, names, "chest", None, (3, 2)), (OUT, OUT))
        for share in ((1, 1), (1, 2), (0, 1)):
            for steps in ((1, 1), (1, 2), (2, 1), (2, 3), (3, 2), (None, 1), (1, None)):
                shown = told(Fraction(1, 3) + Fraction(*share) * Fraction(3, 2))
                paper = tuple((share, step) for step in steps)
                self.not_taken(("has", ring, names, "cat", None, shown), paper)
                self.not_taken(("has", ring, names, "chest", None, told(Fraction(*share) * Fraction(3, 2))), paper)
        self.not_taken(("has", ring, names, "cat", None, (11, 6)), (OUT, OUT))
        self.not_taken(("has", ring, names, "chest", None, (0, 1)), (STUCK, STUCK))

    def test_steps_one_more_or_less(self):
        names, paper = ("ann", "ben"), (((1, 1), 2), ((1, 1), 1))
        claim = ("has", ROW, names, "cat", None, (13, 2))
        self.taken(claim, paper)
        for steps in ((1, 1), (3, 1), (2, 2), (2, 0), (3, 2), (2, None), (None, 1), (None, None), (1, 2), (2, 3)):
            self.not_taken(claim, tuple(((1, 1), step) for step in steps))
        # Any row of thanks that leads out tells STEPS, not the shortest alone.
        web = (EIGHT[:3], (("ann", "rye", ONE),), (("ann", "ben", ONE), ("ann", "cat", ONE), ("ben", "cat", ONE)))
        for steps, wanted in (((1, 1), True), ((2, 1), True), ((3, 1), False), ((1, 2), False), ((2, 2), False)):
            shown = tuple(((1, 1), step) for step in steps)
            self.assertIs(holds(("has", web, names, "cat", None, ONE), shown), wanted)

    def test_steps_do_not_go_round(self):
        web = (EIGHT[:3], (("ann", "rye", ONE),), (("ann", "ben", ONE), ("ben", "ann", ONE), ("ben", "cat", ONE)))
        claim = ("has", web, ("ann", "ben"), "cat", None, ONE)
        for one in (None, 1, 2, 3):
            for other in (None, 1, 2, 3):
                self.assertIs(holds(claim, (((1, 1), one), ((1, 1), other))), (one, other) == (2, 1))

    def test_part(self):
        self.taken(("part", ROW, "cat", None, (), (0, 1)), ((),))
        self.taken(("part", ROW, "cat", None, ("ann",), (0, 1)), ((), (((0, 1), 1),)))
        grounds_of = tuple(grounds(ROW, gone, "cat") for gone in subsets(("ann", "ben")))
        claim = ("part", ROW, "cat", None, ("ann", "ben"), (6, 1))
        self.taken(claim, grounds_of)
        self.none_taken(claim, (
            grounds_of[1:], grounds_of[:-1], grounds_of + ((),), list(grounds_of), grounds_of[::-1],
            (grounds_of[0], grounds_of[2], grounds_of[1], grounds_of[3]), (),
        ))
        self.not_taken(("part", ROW, "cat", None, ("ann", "ben"), (13, 2)), grounds_of)
        self.not_taken(("part", ROW, "cat", None, ("ben", "ann"), (6, 1)), grounds_of)
        self.not_taken(("part", ROW, "cat", None, ("ann", "cat"), (6, 1)), grounds_of)

    def test_to_stays_or_is_the_chest(self):
        for word, place in (("has", 3), ("part", 2)):
            for claim in claims_of_comings(ROW):
                if claim[0] == word and claim[place] == "chest":
                    self.taken(claim, paper_of(claim))
        self.not_taken(("has", ROW, ("ann",), "ann", None, (0, 1)), (((0, 1), 1),))
        self.not_taken(("has", ROW, ("chest",), "ann", None, (6, 1)), ())
        self.not_taken(("has", ROW, (), "zoe", None, (0, 1)), ())
        self.not_taken(("has", ROW, (), "ann", "zzz", (0, 1)), ())
        self.not_taken(("has", ROW, (), "ann", "oats", (0, 1)), ())


class TestWays(Checking):
    def test_can(self):
        for paper in (("ann", "ben", "cat"), ("ben", "cat")):
            lot = "rye" if len(paper) == 3 else "wheat"
            self.taken(("can", ROW, lot, "cat"), paper)
        self.taken(("can", ROW, "rye", "ann"), ("ann",))
        # However long.
        for times in range(5):
            self.taken(("can", RING, "rye", "ann"), ("ann", "ben", "cat") * times + ("ann",))
            self.taken(("can", RING, "rye", "cat"), ("ben", "cat", "ann") * times + ("ben", "cat"))
        self.none_taken(("can", ROW, "rye", "cat"), (
            (), ("ann",), ("cat",), ("ben", "cat"), ("ann", "cat"), ("ann", "ben"), ("ann", "ben", "cat", "chest"),
            ["ann", "ben", "cat"], ("ann", "ben", "cat", "cat"), ("ann", "ann", "ben", "cat"), "cat", None,
            ("ann", "ben", None), (("ann",), "ben", "cat"), ("cat", "ben", "ann"), ("zoe", "cat"),
        ))
        # The chest holds, but thanks nobody, and is none of the people.
        self.none_taken(("can", ROW, "hay", "cat"), (("chest", "cat"), ("chest",), ("cat",), ("ben", "cat")))
        self.not_taken(("can", ROW, None, "cat"), ("ben", "cat"))
        self.not_taken(("can", ROW, "rye", "chest"), ("ann", "ben", "cat", "chest"))
        self.not_taken(("can", ROW, "zzz", "ann"), ("ann",))

    def test_never(self):
        self.taken(("never", ROW, "wheat", "ann"), ("ben", "cat"))
        for shut in ((), ("cat",), ("ben", "cat")):
            self.taken(("never", ROW, "hay", "ann"), shut)
        self.none_taken(("never", ROW, "wheat", "ann"), (
            (), ("ben",), ("cat",), ("cat", "ben"), ("ann", "ben", "cat"), ["ben", "cat"], ("ben", "ben", "cat"),
            ("ben", "cat", "chest"), None, "bencat", ("ben", "cat", "zoe"), ("ben", None),
        ))
        self.none_taken(("never", ROW, "wheat", "cat"), ((), ("ben",), ("ben", "cat"), ("ann", "ben")))
        self.not_taken(("never", ROW, None, "ann"), ("ben", "cat"))
        self.not_taken(("never", ROW, "zzz", "ann"), ())
        self.not_taken(("never", ROW, "hay", "chest"), ())
        self.not_taken(("never", ROW, "hay", "zoe"), ())

    def test_one_of_both_for_each_and_all_papers_of_it(self):
        for web in SOME:
            for claim in claims_of_ways(web):
                rows = list(ways(web, web[0], web[0])) + subsets(web[0])
                papers = [paper for paper in rows if takes(claim, paper)]
                self.assertEqual(len(papers) > 0, is_so(claim))
                for paper in rows:
                    self.assertIs(holds(claim, paper), paper in papers)


class TestGoings(Checking):
    def test_fewest(self):
        claim, paper = ("fewest", ROW, "cat", None, (13, 2), 2), (
            ("ann", "ben"), (((1, 1), 2), ((1, 1), 1)), ((("ann",), (((0, 1), 1),)), (("ben",), (((1, 1), 1),))),
        )
        self.taken(claim, paper)
        names, shown, cover = paper
        self.none_taken(claim, (
            # A tuple of fewer is left out.
            (names, shown, cover[:1]), (names, shown, cover[1:]), (names, shown, ()), (names, shown, (((), ()),)),
            (names, shown, list(cover)), (names, shown, cover + ((names, shown),)), (names, shown, cover + (None,)),
            (names, shown, tuple(map(list, cover))), (names, shown), (names, shown, cover, ()), (names[::-1], shown, cover),
            (names, shown[::-1], cover), (("ann",), (((0, 1), 1),), cover), list(paper), (names, shown, None),
        ))
        for more in (cover[::-1], cover * 2, cover + (((), ()),)):
            self.taken(claim, (names, shown, more))
        for how in (0, 1, 3, True, -1, None, "2", (2,), 10 ** 30):
            self.not_taken(claim[:5] + (how,), paper)
        self.not_taken(("fewest", ROW, "cat", None, (1, 2), 2), paper)
        self.not_taken(("fewest", ROW, "cat", None, (7, 1), 2), paper)
        # Somewhat less is brought by no fewer either.
        self.taken(("fewest", ROW, "cat", None, (3, 5), 2), paper)

    def test_one_set_covers_many(self):
        web = (EIGHT[:5], (("dan", "rye", ONE), ("eva", "rye", ONE)), (("dan", "ann", ONE), ("eva", "ann", ONE)))
        claim = ("fewest", web, "ann", None, (2, 1), 2)
        shown = (((1, 1), 1), ((1, 1), 1))
        one = (("ben", "cat", "dan"), (STUCK, STUCK, ((1, 1), 1)))
        other = (("ben", "cat", "eva"), (STUCK, STUCK, ((1, 1), 1)))
        self.taken(claim, (("dan", "eva"), shown, (one, other)))
        self.not_taken(claim, (("dan", "eva"), shown, (one,)))
        self.not_taken(claim, (("dan", "eva"), shown, (one, (("eva",), (((0, 1), 1),)))))
        self.taken(claim, (("dan", "eva"), shown, (one, (("eva",), (((1, 1), 1),)))))

    def test_how_0(self):
        for amount in ((6, 1), (1, 9), (0, 1), (-3, 1)):
            claim = ("fewest", ROW, "ann", None, amount, 0)
            self.taken(claim, ((), (), ()))
            self.none_taken(claim,
                (((), ()), (("ben",), (((0, 1), 1),), ()), (None, (), ()), ((), (), None), ((), None, ())))
        # A set by whose going there is less may stand there, one that brings enough may not.
        self.not_taken(("fewest", ROW, "ann", None, (6, 1), 0), ((), (), (((), ()),)))
        self.not_taken(("fewest", ROW, "ann", None, (6, 1), False), ((), (), ()))
        self.not_taken(("fewest", ROW, "ann", None, (7, 1), 0), ((), (), ()))
        self.taken(("fewest", ONE_ALONE, "ann", None, (3, 1), 0), ((), (), ()))

    def test_too_much(self):
        claim, paper = ("too much", ROW, "cat", "rye", (7, 1)), (((1, 1), 2), ((1, 1), 1))
        self.taken(claim, paper)
        self.taken(("too much", ROW, "cat", "rye", (6 * HUGE + 1, HUGE)), paper)
        for amount in ((6, 1), (5, 1), (0, 1), (-1, 1), (14, 2), None, 7):
            self.not_taken(claim[:4] + (amount,), paper)
        self.none_taken(claim, (paper[:1], (), paper[::-1], list(paper), (((0, 1), 2), ((0, 1), 1)), None))
        self.not_taken(("too much", ROW, "chest", "rye", (7, 1)), paper)
        self.not_taken(("too much", ROW, "chest", "rye", (7, 1)), (((1, 1), 3), ((1, 1), 2), ((1, 1), 1)))
        self.taken(("too much", ONE_ALONE, "ann", None, (4, 1)), ())
        self.not_taken(("fewest", CHEST_ALONE, "chest", None, ONE, 0), ((), (), ()))


class TestThanks(Checking):
    def test_thank(self):
        # ann thanks ben for 2, and all of ben's is half dan's: 6 T / (2 + T) of ann's comes to eva.
        web, asked = KNOT, (KNOT, ("ann",), "ann", "eva", None)
        claim, paper = ("thank", *asked, (4, 1), (2, 5)), ((((0, 1), 1),), (((1, 6), 1),), (("ann",), ()))
        self.taken(claim, paper)
        for least in ((3, 5), (2, 6), (0, 1), (-2, 5), (1, 5), None, 1, (2, True)):
            self.not_taken(claim[:7] + (least,), paper)
        for amount in ((3, 1), (5, 1), (399, 100), (4, True)):
            self.not_taken(("thank", *asked, amount, (2, 5)), paper)
        self.none_taken(claim, (
            paper[:2], paper + ((),), list(paper), (paper[1], paper[0], paper[2]), paper[:2] + (None,),
            paper[:2] + ((),), paper[:2] + (((), ()),), paper[:2] + ((("ann",), None),), paper[:2] + ((("ben",), ()),),
            paper[:2] + ((["ann"], ()),), paper[:2] + ((("ann",), []),), paper[:2] + ((("ann",), ("ann",)),),
            paper[:2] + ((("ann", "ben"), ()),), paper[:2] + ((("ann",), ("ben",)),), ((STUCK,),) + paper[1:],
        ))
        self.assertEqual(web[2][0], ("ann", "ben", (2, 1)))

    def test_no_thanks_at_all_are_no_least_ones(self):
        # Where TO has AMOUNT without any, T 0 is no claim.
        shown = (((0, 1), 1),)
        self.not_taken(("thank", KNOT, ("ann",), "ann", "eva", None, (3, 1), (0, 1)), (shown, shown, (("ann",), ())))
        self.not_taken(("any thank", KNOT, ("ann",), "ann", "eva", None, (3, 1)), (shown, (((1, 1), 1),), ("ann",)))

    def test_opening(self):
        web, names = SHUT, ("ann", "ben", "cat", "dan")
        claim = next(claim for claim in claims_of_thank(web, names, "cat", "eva", None) if claim[0] == "thank")
        paper = paper_of(claim)
        # cat's thanks lead to ann and ben, who thank each other alone.
        fits = [opening for opening in openings(web, names, "cat")]
        self.assertEqual(len(fits), 4)
        for opening in fits + [(("cat", "ann", "ben", "ann", "ben"), ("ann", "ben"))]:
            self.taken(claim, paper[:2] + (opening,))
        for opening in (
            (("cat",), ("ann", "ben")), (("cat", "ann"), ()), (("cat", "ann"), ("ann",)), (("ann",), ("ann", "ben")),
            (("cat", "ann"), ("ann", "ben", "cat")), (("cat", "dan"), ()), ((), ("ann", "ben")), (("dan",), ()),
            (("cat", "ann"), ("ben", "ann")), (("cat", "ann"), ("ann", "ben", "eva")), (("cat", "ann", "cat"), ()),
            None, ("cat", "ann"), [("cat", "ann"), ("ann", "ben")], (("cat", "ann", "eva"), ()),
        ):
            self.not_taken(claim, paper[:2] + (opening,))
        # From ann no thanks lead elsewhere: there is no opening, and any thanks do.
        self.assertEqual(openings(web, names, "ann"), [])

    def test_any_thank(self):
        claim = ("any thank", SHUT, ("ann", "ben", "cat"), "ann", "eva", None, (13, 1))
        shown = (STUCK, STUCK, STUCK)
        more = (((1, 1), 1), ((1, 1), 2), ((1, 1), 2))
        self.taken(claim, (shown, more, ("ann", "ben")))
        # cat's thanks lead to ann, too, but not back.
        self.taken(claim, (shown, more, ("ann", "ben", "cat")))
        self.taken(claim[:6] + ((12, 1),), (shown, more, ("ann", "ben")))
        self.none_taken(claim, (
            (shown, more, ("ann",)), (shown, more, ("ben",)), (shown, more, ()), (shown, more, ("ben", "ann")),
            (shown, more, ["ann", "ben"]), (shown, more, None), (more, more, ("ann", "ben")),
            (shown, shown, ("ann", "ben")),
            (shown, more, ("ann", "ben", "eva")), (shown, more), (shown, more, ("ann", "ben"), ()),
            (shown, more, ("ann", "cat")),
        ))
        self.not_taken(claim[:6] + ((14, 1),), (shown, more, ("ann", "ben")))
        self.not_taken(claim[:6] + ((1, 1),), (shown, more, ("ann", "ben")))
        # eva thanks nobody.
        claim = ("any thank", KNOT, ("eva",), "eva", "dan", "hay", (3, 1))
        self.taken(claim, ((STUCK,), (((1, 1), 1),), ("eva",)))
        # One from whom no thanks lead to BY is none of the set.
        web = (EIGHT[:4], (("ann", "rye", ONE),), (("ben", "cat", ONE),))
        claim, shown = ("any thank", web, ("ann", "cat"), "ann", "dan", None, ONE), (STUCK, STUCK)
        self.taken(claim, (shown, (((1, 1), 1), STUCK), ("ann",)))
        self.not_taken(claim, (shown, (((1, 1), 1), STUCK), ("ann", "cat")))

    def test_no_thank(self):
        asked = (KNOT, ("ann",), "ann", "eva", None)
        shown, more = (((0, 1), 1),), (((1, 1), 1),)
        # Less even where it thanks eva alone: no opening; just as much: with one.
        self.taken(("no thank", *asked, (10, 1)), (shown, more, None))
        self.not_taken(("no thank", *asked, (10, 1)), (shown, more, (("ann",), ())))
        self.taken(("no thank", *asked, (9, 1)), (shown, more, (("ann",), ())))
        self.none_taken(("no thank", *asked, (9, 1)), (
            (shown, more, None), (shown, more, ((), ())), (shown, more), (more, more, (("ann",), ())),
            (shown, shown, (("ann",), ())), (shown, more, ()), (shown, more, False),
        ))
        self.none_taken(("no thank", *asked, (8, 1)), ((shown, more, None), (shown, more, (("ann",), ()))))
        self.none_taken(("no thank", *asked, (3, 1)), ((shown, more, None), (shown, more, (("ann",), ()))))
        # Where any thanks do, no opening is there.
        eva = ("no thank", KNOT, ("eva",), "eva", "dan", None, (3, 1))
        for opening in (None, (("eva",), ()), (("eva",), ("eva",)), ((), ())):
            self.not_taken(eva, ((STUCK,), (((1, 1), 1),), opening))

    def test_to_is_one_of_the_people_and_by_one_of_names(self):
        shown, more = (((1, 1), 2),), (((1, 1), 1),)
        for word, third in (("thank", (("ann",), ())), ("any thank", ("ann",)), ("no thank", None)):
            for by, to in (("ann", "chest"), ("ben", "eva"), ("ann", "ann"), ("chest", "eva"), ("ann", "zoe"),
                (None, "eva")):
                claim = (word, KNOT, ("ann",), by, to, None, (100, 1)) + ((ONE,) if word == "thank" else ())
                self.not_taken(claim, (shown, more, third))

    def test_to_the_chest_with_grounds_that_fit(self):
        names = ("ann", "ben")
        shown, more = grounds(KNOT, names, "chest"), grounds(with_alone(KNOT, "ann", "chest"), names, "chest")
        self.not_taken(("no thank", KNOT, names, "ann", "chest", None, (100, 1)), (shown, more, None))
        most = told(amount_of(with_alone(KNOT, "ann", "chest"), names, "chest", None))
        self.not_taken(("no thank", KNOT, names, "ann", "chest", None, most), (shown, more, (("ann", "ben"), ())))
        other = with_more(KNOT, "ann", "chest", 1)
        claim = ("thank", KNOT, names, "ann", "chest", None, told(amount_of(other, names, "chest", None)), ONE)
        self.not_taken(claim, (shown, grounds(other, names, "chest"), (("ann", "ben"), ())))
        self.taken(("has", KNOT, names, "chest", None, told(amount_of(KNOT, names, "chest", None))), shown)

    def test_less_thanks_with_grounds_that_fit(self):
        # With 3 less ann would thank all together for -1: eva's part were 3, ben's -2.
        shown, more = (((0, 1), 1),), (((3, 1), 1),)
        for amount in ((21, 1), (3, 1), (4, 1)):
            self.not_taken(("thank", KNOT, ("ann",), "ann", "eva", None, amount, (-3, 1)), (shown, more, (("ann",), ())))

    def test_all_openings_and_sets(self):
        seen = set()
        for web in (KNOT, SHUT, RING, SMALL[12]):
            for claim in list(claims_of_thanks(web))[::5]:
                if len(claim[2]) < 4 and is_so(claim):
                    names, paper = claim[2], paper_of(claim)
                    opened = [(row, shut) for row in ways(web, names, names) for shut in subsets(names)]
                    for third in opened + subsets(names) + [None]:
                        wanted = takes(claim, paper[:2] + (third,))
                        self.assertIs(holds(claim, paper[:2] + (third,)), wanted)
                        seen.add((claim[0], wanted))
        self.assertEqual(len(seen), 6)


class TestBeside(Checking):
    def test_apart(self):
        other = (ROW[0], ROW[1], (("ann", "ben", ONE), ("ann", "cat", ONE)) + ROW[2][1:])
        paper = ((((1, 1), 1),), (((1, 2), 1),))
        self.taken(("apart", ROW, other, ("ann",), "ben", "rye"), paper)
        self.taken(("apart", other, ROW, ("ann",), "ben", "rye"), paper[::-1])
        self.none_taken(("apart", ROW, other, ("ann",), "ben", "rye"), (
            paper[::-1], paper[:1], paper + paper[:1], list(paper), (paper[0], paper[0]), (paper[1], paper[1]), None, (),
        ))
        self.not_taken(("apart", ROW, other, ("ann",), "ben", "hay"), paper)
        self.not_taken(("apart", ROW, other, ("ann",), "ben", None), paper)
        self.not_taken(("apart", ROW, other, ("ann",), "ann", "rye"), paper)
        self.not_taken(("apart", ROW, ROW, ("ann",), "ben", "rye"), (paper[0], paper[0]))
        # A lot that one of both has not, and the chest.
        more = (ROW[0], ROW[1][:2], ROW[2])
        self.taken(("apart", ROW, more, (), "chest", "hay"), ((), ()))
        self.taken(("apart", more, ROW, (), "chest", "hay"), ((), ()))
        self.not_taken(("apart", ROW, more, (), "chest", "oats"), ((), ()))
        self.not_taken(("apart", ROW, more, (), "ann", "hay"), ((), ()))
        # Of other people they are not beside each other.
        self.not_taken(("apart", ROW, (ROW[0][:2], (), ()), (), "chest", "hay"), ((), ()))
        self.not_taken(("apart", CHEST_ALONE, (("ann",),) + CHEST_ALONE[1:], (), "chest", "rye"), ((), ()))

    def test_alike(self):
        many = (ROW[0], ROW[1], tuple((name, to, (amount[0] * 7, amount[1])) for name, to, amount in ROW[2]))
        for one, other in ((ROW, ROW), (NOBODY, NOBODY), (ROW, many), (many, ROW), (FULL, FULL)):
            self.taken(("alike", one, other), None)
            for paper in ((), 0, False, "", ((), ()), (None,)):
                self.not_taken(("alike", one, other), paper)
        # Each one's thanks may be so many times as great, one's as another's or not.
        half = (BOTH[0], BOTH[1], tuple(
            (name, to, told(Fraction(*amount) * (3 if name == "ann" else Fraction(1, 2)))) for name, to, amount in BOTH[2]))
        self.taken(("alike", BOTH, half), None)
        for place in range(len(BOTH[2])):
            name, to, amount = BOTH[2][place]
            other = (BOTH[0], BOTH[1],
                BOTH[2][:place] + ((name, to, (amount[0] * 7, amount[1] * 5)),) + BOTH[2][place + 1:])
            alone = [row[0] for row in BOTH[2]].count(name) == 1
            self.assertIs(holds(("alike", BOTH, other), None), alone and is_so(("alike", BOTH, other)))
            self.not_taken(("alike", BOTH, (BOTH[0], BOTH[1], BOTH[2][:place] + BOTH[2][place + 1:])), None)
        self.not_taken(("alike", ROW, (ROW[0], ROW[1][1:], ROW[2])), None)
        self.not_taken(("alike", ROW, (("ann", "ben", "cat", "dan"), ROW[1], ROW[2])), None)


class TestAll(Checking):
    def test_right_papers_of_claims_that_are_so(self):
        seen = {}
        for web in SOME[:10]:
            for claim in list(true_claims(web))[::3]:
                paper = paper_of(claim)
                self.assertTrue(takes(claim, paper), (claim, paper))
                self.taken(claim, paper)
                seen[claim[0]] = seen.get(claim[0], 0) + 1
        self.assertEqual(sorted(seen), sorted(CLAIMS[:9]))
        self.assertTrue(all(many > 2 for many in seen.values()), seen)

    def test_a_part_put_otherwise(self):
        source, seen = random.Random(18), {}
        other = (KNOT[0], KNOT[1], KNOT[2][1:])
        beside = (
            ("alike", KNOT, KNOT), ("apart", KNOT, other, ("ann",), "ben", "rye"),
            ("apart", other, KNOT, ("ann",), "chest", "rye"),
        )
        claims = [claim for web in SOME[:8] for claim in true_claims(web)]
        for word in CLAIMS:
            some = [claim for claim in claims + list(beside * 4) if claim[0] == word]
            for claim in source.sample(some, min(len(some), 12)):
                paper = paper_of(claim)
                papers = list(put_otherwise(paper))
                tries = [(one, paper) for one in source.sample(list(put_otherwise(claim)), 25)]
                tries += [(claim, one) for one in source.sample(papers, min(30, len(papers)))]
                for one, shown in tries:
                    before = [picture(one), picture(shown)]
                    wanted = takes(one, shown)
                    self.assertIs(holds(one, shown), wanted, (one, shown))
                    self.assertEqual([picture(one), picture(shown)], before)
                    self.assertTrue(is_so(one) or not wanted)
                    seen[(word, wanted)] = seen.get((word, wanted), 0) + 1
        self.assertTrue(all(seen[(word, False)] > 50 for word in CLAIMS), seen)

    def test_all_parts_put_otherwise_of_a_few(self):
        web = (("ann", "ben"), (("ann", "rye", (2, 1)),), (("ann", "ben", ONE), ("ben", "chest", ONE)))
        claims = [claim for claim in true_claims(web) if claim[0] != "has" or claim[2] == ("ann",)]
        for claim in claims[::3]:
            paper = paper_of(claim)
            for one in put_otherwise(claim):
                self.assertIs(holds(one, paper), takes(one, paper), (one, paper))
            for one in put_otherwise(paper):
                self.assertIs(holds(claim, one), takes(claim, one), (claim, one))

    def test_papers_of_other_claims(self):
        source = random.Random(3)
        pairs = [(claim, paper_of(claim)) for claim in true_claims(KNOT)]
        for claim, paper in source.sample(pairs, 60):
            for other, shown in source.sample(pairs, 15):
                wanted = takes(claim, shown)
                self.assertIs(holds(claim, shown), wanted)
                one = (other[0],) + claim[1:]
                self.assertIs(holds(one, shown), takes(one, shown))

    def test_things_of_any_kind(self):
        right = ("has", ROW, (), "ann", None, (6, 1))
        self.taken(right, ())
        for thing in ODD_THINGS + NO_WEBS + (right[:-1], right + (None,), list(right), nested(3), ("has",), (right,),
            CLAIMS):
            self.not_taken(thing, ())
            self.not_taken(thing, thing)
            self.not_taken(("has", thing) + right[2:], ())
            for place in range(2, 6):
                if place != 4 or thing is not None:
                    claim = right[:place] + (thing,) + right[place + 1:]
                    self.assertIs(holds(claim, ()), place == 2 and thing is NO_WEBS[0])
            if thing is not NO_WEBS[0]:
                self.not_taken(right, thing)
                self.not_taken((thing,) + right[1:], ())
            for word in CLAIMS:
                for many in range(9):
                    self.not_taken((word,) + (thing,) * many, thing)
                    self.not_taken((word, KNOT) + (thing,) * many, thing)
        for word in ("Has", "has ", "", "toomuch", "too  much", "all", "chest", b"has", 0, None, True, ("has",)):
            self.not_taken((word,) + right[1:], ())

    def test_great_numbers(self):
        web = (EIGHT[:3], (("ann", "rye", (HUGE, 1)),), (("ann", "ben", (1, HUGE)), ("ann", "cat", (HUGE, HUGE + 1))))
        claim = ("has", web, ("ann",), "ben", None, told(amount_of(web, ("ann",), "ben", None)))
        self.taken(claim, paper_of(claim))
        self.not_taken(claim[:5] + ((claim[5][0], claim[5][1] + HUGE),), paper_of(claim))
        self.not_taken(claim, (((10 ** 5000, 1), 10 ** 5000),))
        self.not_taken(("fewest", web, "ann", None, ONE, 10 ** 5000), ((), (), ()))

    def test_eight_people(self):
        names = EIGHT[1:]
        claim = ("has", FULL, names, "ann", None, told(amount_of(FULL, names, "ann", None)))
        paper = paper_of(claim)
        self.taken(claim, paper)
        self.not_taken(claim, paper[:-1] + (((paper[-1][0][0], paper[-1][0][1] + 2), 1),))
        self.taken(("too much", FULL, "ann", None, told(Fraction(*claim[5]) + Fraction(1, HUGE))), paper)
        self.not_taken(("too much", FULL, "ann", None, claim[5]), paper)

    def test_what_is_handed_in_stays_as_it_was(self):
        claims = [claim for claim in true_claims(copy.deepcopy(KNOT))][::40]
        for claim in claims:
            paper = paper_of(claim)
            before = copy.deepcopy((claim, paper))
            self.taken(claim, paper)
            self.assertEqual((claim, paper), before)

    def test_interface(self):
        self.assertEqual(str(inspect.signature(holds)), "(claim, paper)")
        self.assertEqual(holds.__module__, "thankways.checker")
        self.assertIs(holds(paper=(), claim=("has", PAIR, (), "ann", None, (4, 1))), True)
        self.assertIs(holds(paper=None, claim=("has", PAIR, (), "ann", None, (4, 1))), False)
