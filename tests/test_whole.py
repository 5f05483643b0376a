"""The whole: what is promised over all modules at once (points 2 and 3, and the interface)."""

import importlib
import inspect
import itertools
import random
import unittest
from fractions import Fraction

from tests.model import subsets, told, turns_of
from tests.samples import BOTH, FULL, PAIR, RING, made
from tests.test_beside import with_thanks
from tests.test_thanks import KNOT, SHUT
from tests.test_walking import made_book
from tests.truth import is_so, others_of
from thankways.beside import apart
from thankways.checker import holds
from thankways.comes import has
from thankways.deeds import is_book
from thankways.desk import Desk
from thankways.errors import LostError, StandError, ThankError
from thankways.fewest import fewest, most
from thankways.goings import after
from thankways.house import House
from thankways.papers import paper_apart, paper_fewest, paper_has, paper_part, paper_thank, paper_way
from thankways.parts import merits, parts
from thankways.shares import shares, stuck
from thankways.texts import read_book, read_web, show_book, show_web
from thankways.thanks import least_thank
from thankways.turns import touched, turns
from thankways.walking import fails_at, web_after, web_of
from thankways.ways import reached, way
from thankways.webs import held, is_web, thanked

WEBS = (RING, PAIR, BOTH, KNOT, SHUT, made(2, 5, density=0.3), made(3, 5, density=0.6))
INTERFACE = {
    "fractions": {
        "is_fraction": "(thing)", "fraction": "(top, bottom=1)", "plus": "(one, other)", "minus": "(one, other)",
        "times": "(one, other)", "over": "(one, other)", "below": "(one, other)",
    },
    "deeds": {"is_name": "(thing)", "is_deed": "(thing)", "is_book": "(thing)"},
    "webs": {"is_web": "(thing)", "held": "(web, holder, *, lot=None)", "thanked": "(web, name, to)"},
    "walking": {"fails_at": "(book)", "web_after": "(web, deed)", "web_of": "(book)"},
    "texts": {"show_book": "(book)", "read_book": "(text)", "show_web": "(web)", "read_web": "(text)"},
    "goings": {"after": "(web, names)"},
    "shares": {"shares": "(web, names)", "stuck": "(web, names)"},
    "comes": {"has": "(web, names, to, *, lot=None)"},
    "parts": {"parts": "(web, names, to, *, lot=None)", "merits": "(web, names, to, *, lot=None)"},
    "ways": {"way": "(web, lot, to)", "reached": "(web, lot)"},
    "fewest": {"fewest": "(web, to, amount, *, lot=None)", "most": "(web, to, many, *, lot=None)"},
    "thanks": {"least_thank": "(web, names, by, to, amount, *, lot=None)"},
    "beside": {"apart": "(web, other)"},
    "turns": {"turns": "(book)", "touched": "(book, number)"},
    "house": {"House": "()"},
    "checker": {"holds": "(claim, paper)"},
    "papers": {
        "paper_has": "(web, names, to, *, lot=None)", "paper_way": "(web, lot, to)",
        "paper_fewest": "(web, to, amount, *, lot=None)", "paper_part": "(web, names, to, *, lot=None)",
        "paper_thank": "(web, names, by, to, amount, *, lot=None)", "paper_apart": "(web, other)",
    },
    "desk": {"Desk": "()"},
}


def standing_book(number, many):
    book = made_book(number, many)
    return book if fails_at(book) is None else book[:-1]


def words(deed):
    return " ".join(map(str, deed))


def more_thanks(web, name, to, more):
    thanks = {row[:2]: Fraction(*row[2]) for row in web[2]}
    thanks[(name, to)] = thanks.get((name, to), 0) + more
    return with_thanks(web, thanks)


class TestGoingsTurnedAbout(unittest.TestCase):
    def test_in_a_book_in_a_house_at_a_desk_and_all_at_once(self):
        for number in range(5):
            book = standing_book(number, 24)
            web = web_of(book)
            names = web[0][:4]
            wanted = after(web, names)
            for turn in turns_of(names):
                goings = tuple(("go", name) for name in turn)
                self.assertEqual(web_of(book + goings), wanted)
                house, desk, behind = House(), Desk(), web
                for deed in book + goings:
                    house.enter(deed)
                    self.assertEqual(desk.say(words(deed)), "ok")
                for deed in goings:
                    behind = web_after(behind, deed)
                self.assertEqual((house.web(), behind), (wanted, wanted))
                self.assertGreaterEqual(set(turns(book + goings)), set(range(len(book), len(book) + len(names) - 1)))
                holders = sorted({row[0] for row in wanted[1]})
                told_now = [f"{holder} {desk.say(f'has {holder}')}" for holder in holders]
                desk = Desk()
                for deed in book:
                    desk.say(words(deed))
                if names:
                    self.assertEqual(desk.say("if " + " ".join(names)), ", ".join(told_now) or "none")

    def test_goings_put_in_ahead_and_struck(self):
        for number in range(8):
            book, house = standing_book(number, 20), House()
            for deed in book:
                house.enter(deed)
            names = house.web()[0]
            wanted = after(house.web(), names)
            for name in names:
                # Each one ahead of those that stand there already.
                house.enter(("go", name), at=len(book))
            self.assertEqual(house.web(), wanted)
            for _ in names:
                house.strike(len(book))
            self.assertEqual(house.book(), book)

    def test_some_first_the_others_then(self):
        for web in WEBS + (FULL,):
            names = web[0][:5]
            for first in subsets(names)[::3]:
                then = tuple(name for name in names if name not in first)
                self.assertEqual(after(after(web, first), then), after(web, names))
                for to in after(web, names)[0]:
                    self.assertEqual(has(after(web, first), then, to), has(web, names, to))


class TestNothingIsLost(unittest.TestCase):
    def test_of_what_was_brought(self):
        for number in range(15):
            book, desk = standing_book(number, 40), Desk()
            brought = {}
            for deed in book:
                desk.say(words(deed))
                if deed[0] == "bring":
                    brought[deed[2]] = deed[3]
            web = web_of(book)
            for lot, many in brought.items():
                there = sum(Fraction(desk.say(f"has {holder} {lot}")) for holder in web[0] + ("chest",))
                self.assertEqual(there, many)
            for names in subsets(web[0])[1::9]:
                answer = desk.say("if " + " ".join(names))
                amounts = [Fraction(part.split(" ")[1]) for part in answer.split(", ")] if answer != "none" else []
                self.assertEqual(sum(amounts), sum(brought.values()))

    def test_merits_are_all_that_is_won(self):
        for web in WEBS:
            for to in web[0] + ("chest",):
                names = others_of(web, to)
                won = Fraction(*has(web, names, to)) - Fraction(*held(web, to))
                self.assertEqual(sum(Fraction(*amount) for _, amount in merits(web, names, to)), won)
                self.assertEqual(sum(Fraction(*amount) for _, amount in parts(web, names, to)),
                    Fraction(*has(web, names, to)))
                self.assertTrue(all(amount[0] > 0 for _, amount in parts(web, names, to)))


class TestMoreAndLess(unittest.TestCase):
    def test_more_goings(self):
        for web in WEBS:
            for to in web[0] + ("chest",):
                amounts = {gone: Fraction(*has(web, gone, to)) for gone in subsets(others_of(web, to))}
                for one, other in itertools.product(amounts, repeat=2):
                    if set(one) <= set(other):
                        self.assertLessEqual(amounts[one], amounts[other])

    def test_more_thanks_towards_somebody(self):
        for web in WEBS:
            for by, to in itertools.permutations(web[0], 2):
                other = more_thanks(web, by, to, Fraction(7, 3))
                for names in subsets(others_of(web, to)):
                    self.assertLessEqual(Fraction(*has(web, names, to)), Fraction(*has(other, names, to)))
                for amount in ((1, 1), (5, 1), (9, 1)):
                    found, others = fewest(web, to, amount), fewest(other, to, amount)
                    if found is not None:
                        self.assertLessEqual(len(others[0]), len(found[0]))
                for lot in sorted({row[1] for row in web[1]}):
                    self.assertLessEqual(set(reached(web, lot)), set(reached(other, lot)))

    def test_no_fewer_goings_and_no_lesser_thanks(self):
        for web in WEBS:
            for to in web[0]:
                for amount in ((2, 1), (6, 1), (10, 1)):
                    found = fewest(web, to, amount)
                    many = len(web[0]) if found is None else len(found[0])
                    for gone in subsets(others_of(web, to)):
                        if len(gone) < many:
                            self.assertLess(Fraction(*has(web, gone, to)), Fraction(*amount))
                    for by in others_of(web, to):
                        answer = least_thank(web, others_of(web, to), by, to, amount)
                        if answer[0] == "at":
                            least = Fraction(*answer[1])
                            for part in (Fraction(0), Fraction(1, 3), Fraction(99, 100), Fraction(1)):
                                other = more_thanks(web, by, to, least * part)
                                enough = Fraction(*has(other, others_of(web, to), to)) >= Fraction(*amount)
                                self.assertEqual(enough, part == 1)

    def test_ways_and_goings(self):
        for web in WEBS:
            for lot in sorted({row[1] for row in web[1]}):
                for to in web[0]:
                    found = way(web, lot, to)
                    self.assertEqual(found is None, fewest(web, to, (1, 10 ** 50), lot=lot) is None)
                    self.assertEqual(found is None, most(web, to, 8, lot=lot)[1] == (0, 1))
                    self.assertEqual(found is not None, to in reached(web, lot))

    def test_stuck_ones_leave_all_to_the_chest(self):
        for web in WEBS + (FULL,):
            for names in subsets(web[0])[::3]:
                for name, row in zip(names, shares(web, names)):
                    if name in stuck(web, names):
                        self.assertEqual(row, (("chest", (1, 1)),))
                    self.assertEqual(sum(Fraction(*share) for _, share in row), 1)


class TestPapersOfAHouse(unittest.TestCase):
    def test_are_taken_and_so(self):
        seen = set()
        for number in range(10):
            source, book = random.Random(number), standing_book(number + 60, 30)
            house = House()
            for deed in book:
                house.enter(deed)
            web = read_web(show_web(house.web()))
            self.assertEqual(web, house.web())
            self.assertEqual(read_book(str(house)), house.book())
            for _ in range(8):
                names = tuple(name for name in web[0] if source.random() < 0.6)
                stays = [name for name in web[0] if name not in names]
                if not names or not stays:
                    continue
                to, by, amount = source.choice(stays), source.choice(names), told(Fraction(source.randrange(90), 4))
                pairs = [paper_has(web, names, to), paper_part(web, names, "chest"), paper_fewest(web, to, amount)]
                pairs += [paper_thank(web, names, by, to, amount), paper_apart(web, web)]
                pairs += [paper_way(web, row[1], to) for row in web[1][:2]]
                pairs += [paper_apart(web, more_thanks(web, by, to, Fraction(1)))] * (len(web[0]) < 6)
                for claim, paper in [pair for pair in pairs if pair is not None]:
                    self.assertIs(holds(claim, paper), True)
                    if len(web[0]) < 6:
                        self.assertTrue(is_so(claim))
                    seen.add(claim[0])
        self.assertGreaterEqual(seen,
            {"has", "part", "fewest", "too much", "thank", "no thank", "alike", "apart", "can", "never"})

    def test_a_deed_that_touches_nobody_leaves_the_webs_alike(self):
        seen = set()
        for number in range(12):
            book = standing_book(number, 25)
            for place in range(len(book)):
                names = touched(book, place)
                if names is not None:
                    other = web_of(book[:place] + book[place + 1:])
                    if web_of(book)[0] == other[0]:
                        if names == ():
                            self.assertEqual(other, web_of(book))
                        self.assertEqual(names == (), other == web_of(book))
                        if apart(web_of(book), other) is not None:
                            self.assertNotEqual(names, ())
                    seen.add(names == ())
        self.assertEqual(seen, {True, False})


class TestTold(unittest.TestCase):
    def test_what_was_told_may_be_handed_in(self):
        web = web_of(read_book("come ann\ncome ben\ncome cat\nbring ann rye 9\ngive ann ben 4\nhand ben cat rye 1"))
        names = way(web, "rye", "cat")
        self.assertEqual(names, ("cat",))
        self.assertEqual(shares(web, reached(web, "rye")), ((("chest", (1, 1)),),) * 3)
        found = most(web, "ann", 2)
        self.assertEqual(fewest(web, "ann", found[1]), found)
        self.assertEqual(has(web, found[0], "ann"), found[1])
        answer = least_thank(web, ("ben", "cat"), "cat", "ann", held(web, "ann"))
        self.assertEqual(answer, ("so",))
        claim, paper = paper_has(web, found[0], "ann")
        self.assertIs(holds(claim, paper), True)
        self.assertIs(is_web(claim[1]), True)
        house = House()
        for deed in read_book(show_book((("come", "ann"), ("bring", "ann", "rye", 2)))):
            house.enter(deed)
        self.assertEqual(house.wish("ann", held(house.web(), "ann")), 0)
        self.assertEqual(house.wishes(), ((0, 1),))
        self.assertIs(is_book(house.book()), True)
        self.assertEqual(thanked(web, "ben", "ann"), (4, 1))


class TestInterface(unittest.TestCase):
    def test_everything_stands_where_it_is_listed(self):
        for module, names in INTERFACE.items():
            there = importlib.import_module(f"thankways.{module}")
            for name, signature in names.items():
                thing = getattr(there, name)
                self.assertEqual(thing.__module__, f"thankways.{module}")
                self.assertEqual(str(inspect.signature(thing)), signature, name)
        self.assertEqual(importlib.import_module("thankways.deeds").CHEST, "chest")

    def test_the_bases(self):
        for base, above in ((ThankError, ValueError), (LostError, LookupError), (StandError, ArithmeticError)):
            self.assertEqual(base.__bases__, (above,))
