"""The least thanks that bring somebody an amount (points 2, 3 and 14)."""

import inspect
from fractions import Fraction

from tests import model
from tests.model import subsets, told
from tests.refusing import Refusing
from tests.samples import BOTH, EIGHT, FULL, LARGE, NO_WEBS, NOBODY, ONE, ONE_ALONE, PAIR, RING, ROW, SMALL, made
from tests.test_comes import NO_LOTS
from tests.test_goings import NO_NAMES
from tests.test_webs import NO_AMOUNTS
from tests.things import ODD_THINGS
from thankways.comes import has
from thankways.thanks import least_thank

LITTLE = Fraction(1, 10 ** 30)
LOT_OF = Fraction(10 ** 60)
# ann thanks ben alone, ben and cat each other and dan, eva nobody.
KNOT = (
    ("ann", "ben", "cat", "dan", "eva"),
    (("ann", "rye", (6, 1)), ("ben", "oats", (4, 1)), ("cat", "rye", (1, 2)), ("eva", "hay", (3, 1))),
    (("ann", "ben", (2, 1)), ("ben", "cat", ONE), ("ben", "dan", ONE), ("cat", "ben", (3, 1))),
)
# ann and ben thank each other alone; cat thanks both of them, dan eva.
SHUT = (
    ("ann", "ben", "cat", "dan", "eva"),
    (("ann", "rye", (6, 1)), ("ben", "oats", (4, 1)), ("cat", "rye", (2, 1)), ("dan", "rye", ONE), ("eva", "hay", ONE)),
    (("ann", "ben", (2, 1)), ("ben", "ann", (5, 1)), ("cat", "ann", ONE), ("cat", "ben", ONE), ("dan", "eva", ONE)),
)


def more_thanks(web, by, to, more):
    """A web in which one thanks another for so much more."""
    thanks = {row[:2]: Fraction(*row[2]) for row in web[2]}
    thanks[(by, to)] = thanks.get((by, to), Fraction(0)) + more
    return (web[0], web[1], tuple(sorted((*pair, told(amount)) for pair, amount in thanks.items() if amount)))


def alone_thanks(web, by, to):
    """A web in which one thanks another alone."""
    return (web[0], web[1], tuple(sorted([row for row in web[2] if row[0] != by] + [(by, to, (2, 3))])))


def comes(web, names, to, lot, by=None, more=0):
    """By the model: what one has behind the going of names, with so much more thanks ahead of it."""
    return model.after(more_thanks(web, by, to, Fraction(more)) if more else web, names).held(to, lot)


def each_question(webs):
    for web in webs:
        for names in subsets(web[0]):
            for to in [name for name in web[0] if name not in names]:
                for by in names:
                    yield web, names, by, to


def amounts_about(*amounts):
    """Amounts, what lies between them, a little less and a little more of each."""
    points = {Fraction(0), *amounts}
    points |= {amount + LITTLE for amount in points} | {amount - LITTLE for amount in points if amount >= LITTLE}
    return sorted(points | {sum(amounts, Fraction(0)) / len(amounts)})


class TestLeastThank(Refusing):
    def wanted(self, told_so, web, names, by, to, amount, lot=None):
        """What is told is so, by the model."""
        without = comes(web, names, to, lot)
        if told_so == ("so",):
            self.assertGreaterEqual(without, amount)
            return
        self.assertLess(without, amount)
        if told_so[0] == "at":
            least = Fraction(*told_so[1])
            self.assertEqual(told(least), told_so[1])
            self.assertGreater(least, 0)
            self.assertEqual(comes(web, names, to, lot, by, least), amount)
            for part in (Fraction(1, 2), 1 - LITTLE):
                self.assertLess(comes(web, names, to, lot, by, least * part), amount)
        elif told_so == ("any",):
            self.assertGreaterEqual(comes(web, names, to, lot, by, 1 / LOT_OF), amount)
            self.assertGreaterEqual(comes(web, names, to, lot, by, 1), amount)
        else:
            self.assertEqual(told_so, ("never",))
            self.assertLess(comes(web, names, to, lot, by, LOT_OF), amount)

    def test_written_out(self):
        # Half of what comes to ben is dan's, half cat's.
        self.assertEqual(least_thank(KNOT, ("ann", "ben"), "ann", "dan", (5, 1)), ("so",))
        self.assertEqual(least_thank(KNOT, ("ann", "ben"), "ann", "dan", (6, 1)), ("at", (1, 1)))
        self.assertEqual(least_thank(KNOT, ("ann", "ben"), "ann", "dan", (5, 1), lot="rye"), ("at", (4, 1)))
        self.assertEqual(least_thank(KNOT, ("ann", "ben"), "ann", "dan", (6, 1), lot="rye"), ("never",))
        self.assertEqual(least_thank(KNOT, ("ann",), "ann", "eva", (3, 1)), ("so",))
        self.assertEqual(least_thank(KNOT, ("ann",), "ann", "eva", (4, 1)), ("at", (2, 5)))
        self.assertEqual(least_thank(KNOT, ("ann",), "ann", "eva", (9, 1)), ("never",))
        self.assertEqual(least_thank(KNOT, ("ann",), "ann", "eva", (899, 100)), ("at", (1198, 1)))
        # eva thanks nobody: any thanks bring all.
        self.assertEqual(least_thank(KNOT, ("eva",), "eva", "dan", (3, 1)), ("any",))
        self.assertEqual(least_thank(KNOT, ("eva",), "eva", "dan", (1, LARGE)), ("any",))
        self.assertEqual(least_thank(KNOT, ("eva",), "eva", "dan", (0, 1)), ("so",))
        self.assertEqual(least_thank(KNOT, ("eva",), "eva", "dan", (LARGE + 3, LARGE)), ("any",))
        self.assertEqual(least_thank(KNOT, ("eva",), "eva", "dan", (3 * LARGE + 1, LARGE)), ("never",))
        self.assertEqual(least_thank(KNOT, ("eva",), "eva", "dan", (1, 1), lot="rye"), ("never",))

    def test_thanks_that_lead_nowhere_but_among_those_who_go(self):
        names = ("ann", "ben", "cat")
        self.assertEqual(least_thank(SHUT, names, "ann", "eva", (1, 1)), ("so",))
        self.assertEqual(least_thank(SHUT, names, "ann", "eva", (13, 1)), ("any",))
        self.assertEqual(least_thank(SHUT, names, "ben", "eva", (13, 1)), ("any",))
        self.assertEqual(least_thank(SHUT, names, "ann", "eva", (14, 1)), ("never",))
        self.assertEqual(least_thank(SHUT, names, "ann", "dan", (9, 1), lot="rye"), ("any",))
        # From ann and ben no thanks lead back to cat: only what cat holds comes to it.
        self.assertEqual(least_thank(SHUT, names, "cat", "eva", (2, 1)), ("at", (2, 1)))
        self.assertEqual(least_thank(SHUT, names, "cat", "eva", (3, 1)), ("never",))
        # Where one of the two stays, the other's thanks lead to one who stays.
        self.assertEqual(least_thank(SHUT, ("ann", "cat"), "ann", "eva", (2, 1)), ("at", (1, 3)))
        self.assertEqual(least_thank(SHUT, ("ann", "cat"), "ann", "eva", (8, 1)), ("never",))
        # Three in a ring, of whom two go: the third stays.
        self.assertEqual(least_thank(RING, ("ann", "ben"), "ben", "cat", (11, 6)), ("so",))
        self.assertEqual(least_thank(RING, ("ann", "ben"), "ben", "cat", (2, 1)), ("never",))

    def test_each_kind_of_answer_about_each_amount(self):
        seen = {}
        for number, (web, names, by, to) in enumerate(each_question(SMALL + (KNOT, SHUT))):
            for lot in (None, *sorted({row[1] for row in web[1]}))[number % 2:][:1]:
                without = comes(web, names, to, lot)
                most = model.after(alone_thanks(web, by, to), names).held(to, lot)
                for amount in amounts_about(without, most):
                    answer = least_thank(web, names, by, to, told(amount), lot=lot)
                    self.wanted(answer, web, names, by, to, amount, lot)
                    seen[answer[0]] = seen.get(answer[0], 0) + 1
        self.assertEqual(sorted(seen), ["any", "at", "never", "so"])
        self.assertTrue(all(many > 100 for many in seen.values()), seen)

    def test_with_the_told_thanks_there_is_just_the_amount(self):
        for web, names, by, to in each_question((KNOT, SHUT, made(3, 4, density=0.6))):
            most = Fraction(*has(alone_thanks(web, by, to), names, to))
            without = Fraction(*has(web, names, to))
            for part in range(1, 8):
                amount = without + (most - without) * part / 8
                answer = least_thank(web, names, by, to, told(amount))
                if answer[0] == "at":
                    least = Fraction(*answer[1])
                    self.assertEqual(has(more_thanks(web, by, to, least), names, to), told(amount))
                    self.assertLess(Fraction(*has(more_thanks(web, by, to, least * 99 / 100), names, to)), amount)
                    # What is told may be handed in: a further thank brings it no less.
                    again = least_thank(more_thanks(web, by, to, least), names, by, to, told(amount))
                    self.assertEqual(again, ("so",))
                    half = least_thank(more_thanks(web, by, to, least / 2), names, by, to, told(amount))
                    self.assertEqual(half, ("at", told(least / 2)))

    def test_never_less_for_a_greater_amount(self):
        for web, names, by, to in each_question((KNOT, SHUT)):
            ranks = []
            for tenths in range(0, 200, 7):
                answer = least_thank(web, names, by, to, told(Fraction(tenths, 10)))
                place = ("so", "any", "at", "never").index(answer[0])
                ranks.append((place, Fraction(*answer[1]) if answer[0] == "at" else 0))
            self.assertEqual(ranks, sorted(ranks))

    def test_eight_people(self):
        for number, web in enumerate((FULL, made(9, 8, density=0.3), made(10, 8, density=0.15))):
            names = EIGHT[:3] + EIGHT[4:]
            for by in names[::2]:
                most = model.after(alone_thanks(web, by, "dan"), names).held("dan")
                for amount in amounts_about(comes(web, names, "dan", None), most)[1:]:
                    self.wanted(least_thank(web, names, by, "dan", told(amount)), web, names, by, "dan", amount)

    def test_refusals_of_webs_and_names(self):
        for thing in NO_WEBS + ODD_THINGS:
            self.no_web(thing, least_thank, thing, ("ann",), "ann", "ben", ONE)
            self.no_web(thing, least_thank, thing, None, None, None, None, lot=0)
        for names in NO_NAMES + ODD_THINGS:
            self.no_names(names, least_thank, BOTH, names, "ann", "cat", ONE)
            self.no_names(names, least_thank, BOTH, names, "zoe", "zoe", None, lot="zzz")
        self.no_name("ann", least_thank, NOBODY, (), "ann", "ben", ONE)
        for name in ("cat", "dan", "zoe", "chest", "", ("ann",), ["ann"], (), 0) + ODD_THINGS:
            # BY is one of those who go, TO one of the people who stay.
            self.no_name(name, least_thank, BOTH, ("ann", "ben"), name, "cat", ONE)
            self.no_name(name, least_thank, BOTH, ("ann", "ben"), name, "zoe", None, lot="zzz")
            self.no_name(name, least_thank, BOTH, (), name, "cat", ONE)
        for name in ("ann", "ben", "zoe", "chest", "", ("cat",), ["cat"], (), 0) + ODD_THINGS:
            self.no_name(name, least_thank, BOTH, ("ann", "ben"), "ann", name, ONE)
            self.no_name(name, least_thank, BOTH, ("ann", "ben"), "ben", name, None, lot="zzz")

    def test_refusals_of_amounts_and_lots(self):
        for amount in ODD_THINGS + NO_AMOUNTS[1:] + ((-1, 3), (0, 2), (0, -1)):
            self.no_amount(amount, least_thank, BOTH, ("ann",), "ann", "cat", amount)
            self.no_amount(amount, least_thank, BOTH, ("ann",), "ann", "cat", amount, lot="zzz")
        for lot in NO_LOTS + ODD_THINGS[1:]:
            self.no_lot(lot, least_thank, BOTH, ("ann",), "ann", "cat", ONE, lot=lot)
        self.no_lot("rye", least_thank, (("ann", "ben"), (), ()), ("ann",), "ann", "ben", ONE, lot="rye")

    def test_interface(self):
        self.assertEqual(str(inspect.signature(least_thank)), "(web, names, by, to, amount, *, lot=None)")
        self.assertEqual(least_thank.__module__, "thankways.thanks")
        told_so = least_thank(lot="rye", amount=(4, 1), to="cat", by="ann", names=("ann",), web=BOTH)
        self.assertEqual(told_so, least_thank(BOTH, ("ann",), "ann", "cat", (4, 1), lot="rye"))
        with self.assertRaises(TypeError):
            least_thank(BOTH, ("ann",), "ann", "cat", (4, 1), "rye")

    def test_nothing_to_bring(self):
        web = (("ann", "ben"), (), (("ann", "ben", ONE),))
        self.assertEqual(least_thank(web, ("ann",), "ann", "ben", (0, 1)), ("so",))
        self.assertEqual(least_thank(web, ("ann",), "ann", "ben", (1, LARGE)), ("never",))
        self.assertEqual(least_thank((("ann", "ben"), (), ()), ("ann",), "ann", "ben", (1, LARGE)), ("never",))
        self.assertEqual(least_thank(ROW, ("ann",), "ann", "cat", (6, 1), lot="hay"), ("never",))
        self.assertEqual(least_thank(PAIR, ("ann", "ben"), "ann", "eva", (7, 1)), ("any",))
        self.assertEqual(ONE_ALONE[2], ())
