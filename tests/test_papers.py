"""The house's papers (points 2, 3 and 19)."""

import inspect
import itertools
import random
from fractions import Fraction

from tests.model import subsets, told
from tests.refusing import Refusing
from tests.samples import (
    BOTH, CHEST_ALONE, EIGHT, FULL, LONG_NAMES, NO_WEBS, NOBODY, ONE, ONE_ALONE, PAIR, RING, ROW, SMALL, made,
)
from tests.spoiling import put_otherwise
from tests.test_beside import apart_by_the_model, likes, with_thanks
from tests.test_checker import some_lots
from tests.test_comes import NO_LOTS
from tests.test_goings import NO_NAMES
from tests.test_thanks import KNOT, SHUT, alone_thanks, amounts_about, comes, each_question
from tests.test_webs import NO_AMOUNTS
from tests.things import ODD_THINGS
from tests.truth import amount_of, fewest_of, is_so, lots_of, others_of, part_of, takes
from thankways import errors
from thankways.checker import holds
from thankways.fewest import fewest
from thankways.papers import paper_apart, paper_fewest, paper_has, paper_part, paper_thank, paper_way
from thankways.thanks import least_thank
from thankways.ways import way

SOME = (NOBODY, CHEST_ALONE, ONE_ALONE, ROW, RING, PAIR, BOTH, KNOT, SHUT) + SMALL[8::3]


class Papers(Refusing):
    def shown(self, pair):
        """A claim that is so, and its paper, are taken by the checker, and as point 18 tells."""
        self.assertEqual((type(pair), len(pair)), (tuple, 2))
        claim, paper = pair
        self.assertTrue(is_so(claim), claim)
        self.assertTrue(takes(claim, paper), pair)
        self.assertIs(holds(claim, paper), True, pair)
        return claim


def questions(webs):
    for web in webs:
        for names in subsets(web[0]):
            for to in others_of(web, None) + ("chest",):
                if to not in names:
                    for lot in some_lots(web):
                        yield web, names, to, lot


class TestPapers(Papers):
    def test_has(self):
        for web, names, to, lot in questions(SOME + (LONG_NAMES,)):
            claim = self.shown(paper_has(web, names, to, lot=lot))
            self.assertEqual(claim, ("has", web, names, to, lot, told(amount_of(web, names, to, lot))))
        self.assertEqual(paper_has(ROW, ("ann", "ben"), "cat"), (
            ("has", ROW, ("ann", "ben"), "cat", None, (13, 2)), (((1, 1), 2), ((1, 1), 1)),
        ))
        self.assertEqual(paper_has(ONE_ALONE, ("ann",), "chest", lot="rye"), (
            ("has", ONE_ALONE, ("ann",), "chest", "rye", (3, 1)), (((1, 1), None),),
        ))

    def test_part(self):
        for web, names, to, lot in questions(SOME):
            claim = self.shown(paper_part(web, names, to, lot=lot))
            self.assertEqual(claim, ("part", web, to, lot, names, told(part_of(web, to, lot, names))))
        # 0, too.
        self.assertEqual(paper_part(ROW, ("ann",), "cat"), (
            ("part", ROW, "cat", None, ("ann",), (0, 1)), ((), (((0, 1), 1),)),
        ))

    def test_way(self):
        words = set()
        for web in SOME:
            for lot in sorted(lots_of(web)):
                for to in web[0]:
                    claim = self.shown(paper_way(web, lot, to))
                    self.assertEqual(claim, ("never" if way(web, lot, to) is None else "can", web, lot, to))
                    words.add(claim[0])
        self.assertEqual(words, {"can", "never"})
        self.assertEqual(paper_way(ROW, "rye", "cat"), (("can", ROW, "rye", "cat"), ("ann", "ben", "cat")))
        self.assertEqual(self.shown(paper_way(ROW, "hay", "cat"))[0], "never")

    def test_fewest(self):
        words = set()
        for web in SOME:
            for to, lot in itertools.product(web[0], some_lots(web)):
                reached = sorted({amount_of(web, gone, to, lot) for gone in subsets(others_of(web, to))})
                for amount in amounts_about(*reached[:2], reached[-1]):
                    claim = self.shown(paper_fewest(web, to, told(amount), lot=lot))
                    how = fewest_of(web, to, lot, amount)
                    if how is None:
                        self.assertEqual(claim, ("too much", web, to, lot, told(amount)))
                    else:
                        self.assertEqual(claim, ("fewest", web, to, lot, told(amount), how))
                    words.add((claim[0], how))
        self.assertGreaterEqual(words, {("too much", None), ("fewest", 0), ("fewest", 1), ("fewest", 2), ("fewest", 3)})

    def test_thank(self):
        words = {}
        for web, names, by, to in each_question((KNOT, SHUT, ROW, RING, PAIR, BOTH)):
            for lot in some_lots(web)[:1]:
                most = amount_of(alone_thanks(web, by, to), names, to, lot)
                for amount in amounts_about(comes(web, names, to, lot), most)[1:]:
                    claim = self.shown(paper_thank(web, names, by, to, told(amount), lot=lot))
                    answer = least_thank(web, names, by, to, told(amount), lot=lot)
                    asked = (web, names, by, to, lot, told(amount))
                    self.assertEqual(claim, {
                        "so": ("has", web, names, to, lot, told(comes(web, names, to, lot))),
                        "at": ("thank", *asked, *answer[1:]), "any": ("any thank", *asked), "never": ("no thank", *asked),
                    }[answer[0]])
                    words[claim[0]] = words.get(claim[0], 0) + 1
        self.assertEqual(sorted(words), ["any thank", "has", "no thank", "thank"])
        self.assertTrue(all(many > 20 for many in words.values()), words)

    def test_thank_of_what_it_has_already(self):
        self.assertEqual(paper_thank(ROW, ("ann",), "ann", "ben", (2, 1), lot="rye"), (
            ("has", ROW, ("ann",), "ben", "rye", (6, 1)), (((1, 1), 1),),
        ))
        # Just as much as all brings, with an opening; more, without one.
        claim, paper = paper_thank(KNOT, ("ann",), "ann", "eva", (9, 1))
        self.assertEqual((claim[0], paper[2]), ("no thank", (("ann",), ())))
        claim, paper = paper_thank(KNOT, ("ann",), "ann", "eva", (10, 1))
        self.assertEqual((claim[0], paper[2]), ("no thank", None))

    def test_apart(self):
        words = set()
        for number, web in enumerate(SOME + (made(1, 5, density=0.2),)):
            for other in list(likes(web, number, 10)) + [web]:
                found = apart_by_the_model(web, other)
                pair = paper_apart(web, other)
                if found is not None:
                    self.assertEqual(self.shown(pair), ("apart", web, other, *found))
                elif is_so(("alike", web, other)):
                    self.assertEqual(self.shown(pair), ("alike", web, other))
                    self.assertIsNone(pair[1])
                else:
                    self.assertIsNone(pair)
                words.add(pair if pair is None else pair[0][0])
        self.assertEqual(words, {None, "apart", "alike"})

    def test_apart_none_where_neither_can_be_told(self):
        web = (ROW[0], ROW[1], ROW[2][:2])
        # What cat leaves comes to the chest in both, though the parts of its thanks are not the same.
        self.assertIsNone(paper_apart(ROW, web))
        self.assertIsNone(paper_apart(web, ROW))
        times = with_thanks(ROW, {row[:2]: Fraction(*row[2]) * 5 for row in ROW[2]})
        self.assertEqual(paper_apart(ROW, times), (("alike", ROW, times), None))
        self.assertEqual(paper_apart(CHEST_ALONE, NOBODY), (("apart", CHEST_ALONE, NOBODY, (), "chest", "rye"), ((), ())))

    def test_no_paper_with_a_part_put_otherwise(self):
        source = random.Random(19)
        pairs = [paper_has(KNOT, ("ann", "ben", "cat"), "dan"), paper_has(SHUT, ("ann", "ben", "cat"), "chest")]
        pairs += [paper_way(KNOT, "rye", "dan"), paper_way(ROW, "wheat", "ann"),
            paper_part(KNOT, ("ann", "ben", "cat"), "dan")]
        pairs += [paper_fewest(KNOT, "dan", (10, 1)), paper_fewest(KNOT, "dan", (999, 100)),
            paper_fewest(KNOT, "eva", (20, 1))]
        pairs += [
            paper_thank(KNOT, ("ann", "ben"), "ann", "dan", (6, 1)),
            paper_thank(SHUT, ("ann", "ben"), "ann", "eva", (5, 1)),
            paper_thank(SHUT, ("ann", "ben"), "ann", "eva", (50, 1)), paper_thank(KNOT, ("ann",), "ann", "eva", (9, 1)),
            paper_apart(KNOT, (KNOT[0], KNOT[1], KNOT[2][1:])),
        ]
        for claim, paper in pairs:
            self.shown((claim, paper))
            others = list(put_otherwise(paper))
            for other in source.sample(others, min(len(others), 250)):
                # All but STEPS, of which some others fit as well, and the turn and the number of rows in a COVER, are told.
                if takes(claim, other):
                    self.assertEqual(shares_of(other), shares_of(paper))
                self.assertIs(holds(claim, other), takes(claim, other), (claim, other))

    def test_eight_people(self):
        web = made(7, 8, density=0.3)
        pairs = [paper_has(FULL, EIGHT[1:], "ann"), paper_part(web, EIGHT[1:], "ann"), paper_apart(FULL, FULL)]
        most = fewest(web, "ann", (1, 1))
        pairs += [paper_fewest(web, "ann", most[1]), paper_fewest(web, "ann", (10 ** 6, 1)), paper_way(web, "corn", "hal")]
        pairs += [paper_thank(FULL, EIGHT[1:], "ben", "ann", told(Fraction(amount, 2))) for amount in range(0, 200, 20)]
        other = (FULL[0], FULL[1], FULL[2][:9] + FULL[2][10:])
        pairs.append(paper_apart(FULL, other))
        for claim, paper in pairs:
            self.assertIs(holds(claim, paper), True)
        self.assertEqual(pairs[-1][0][0], "apart")


def shares_of(paper):
    """All fractions of a paper, in order, each once for all alike."""
    if not isinstance(paper, tuple):
        return set()
    if [type(part) for part in paper] == [int, int]:
        return {paper}
    return set().union(*map(shares_of, paper))


class TestRefusals(Papers):
    def test_webs(self):
        for thing in NO_WEBS + ODD_THINGS:
            self.no_web(thing, paper_has, thing, (), "chest")
            self.no_web(thing, paper_way, thing, "rye", "ann")
            self.no_web(thing, paper_fewest, thing, "ann", ONE)
            self.no_web(thing, paper_part, thing, (), "chest")
            self.no_web(thing, paper_thank, thing, ("ann",), "ann", "ben", ONE)
            self.no_web(thing, paper_apart, thing, None)
            self.no_web(thing, paper_apart, ROW, thing)
            self.no_web(thing, paper_has, thing, None, None, lot=0)
            self.no_web(thing, paper_thank, thing, None, None, None, None, lot=0)
        self.refused(errors.NoMates, {}, paper_apart, ROW, PAIR)

    def test_names(self):
        for names in NO_NAMES + ODD_THINGS:
            for call, rest in ((paper_has, ("zoe",)), (paper_part, ("zoe",)), (paper_thank, ("zoe", "zoe", None))):
                self.no_names(names, call, BOTH, names, *rest, lot="zzz")
        for name in ("ann", "zoe", "", ("cat",), ["cat"], 0) + ODD_THINGS:
            self.no_name(name, paper_has, BOTH, ("ann", "ben"), name, lot="zzz")
            self.no_name(name, paper_part, BOTH, ("ann", "ben"), name, lot="zzz")
            self.no_name(name, paper_thank, BOTH, ("ann", "ben"), "ben", name, None, lot="zzz")
        for name in ("cat", "chest", "zoe", "", ("ann",), ["ann"], 0) + ODD_THINGS:
            self.no_name(name, paper_thank, BOTH, ("ann", "ben"), name, "zoe", None, lot="zzz")
        for name in ("chest", "zoe", "", ("ann",), ["ann"], 0) + ODD_THINGS:
            self.no_name(name, paper_fewest, BOTH, name, None, lot="zzz")
            self.no_name(name, paper_way, BOTH, "rye", name)

    def test_amounts_and_lots(self):
        for amount in ODD_THINGS + NO_AMOUNTS[1:] + ((-1, 3), (0, 2), (0, -1)):
            self.no_amount(amount, paper_fewest, BOTH, "ann", amount, lot="zzz")
            self.no_amount(amount, paper_thank, BOTH, ("ann",), "ann", "cat", amount, lot="zzz")
        for lot in NO_LOTS + ODD_THINGS[1:]:
            self.no_lot(lot, paper_has, BOTH, ("ann",), "cat", lot=lot)
            self.no_lot(lot, paper_part, BOTH, ("ann",), "chest", lot=lot)
            self.no_lot(lot, paper_fewest, BOTH, "ann", ONE, lot=lot)
            self.no_lot(lot, paper_thank, BOTH, ("ann",), "ann", "cat", ONE, lot=lot)
            self.no_lot(lot, paper_way, BOTH, lot, "zoe")
        self.no_lot(None, paper_way, BOTH, None, "ann")

    def test_interface(self):
        for call, wanted in (
            (paper_has, "(web, names, to, *, lot=None)"), (paper_way, "(web, lot, to)"),
            (paper_fewest, "(web, to, amount, *, lot=None)"), (paper_part, "(web, names, to, *, lot=None)"),
            (paper_thank, "(web, names, by, to, amount, *, lot=None)"), (paper_apart, "(web, other)"),
        ):
            self.assertEqual(str(inspect.signature(call)), wanted)
            self.assertEqual(call.__module__, "thankways.papers")
        self.assertEqual(paper_has(lot="rye", to="cat", names=("ann",), web=BOTH),
            paper_has(BOTH, ("ann",), "cat", lot="rye"))
        self.assertEqual(paper_apart(other=ROW, web=ROW), (("alike", ROW, ROW), None))
