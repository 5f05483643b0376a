"""A house keeps a book that stands, and wishes (points 2, 3 and 17)."""

import inspect
import random
from fractions import Fraction
from unittest.mock import ANY

from tests.model import told
from tests.refusing import Refusing
from tests.samples import EIGHT, EIGHT_LOTS, LARGE, NOBODY, ONE
from tests.test_comes import NO_LOTS
from tests.test_walking import BOOK, BOOK_WEBS, NO_DEEDS, made_book
from tests.test_webs import NO_AMOUNTS
from tests.things import ODD_THINGS
from thankways import errors
from thankways.house import House
from thankways.texts import show_book
from thankways.walking import fails_at, web_after, web_of
from thankways.webs import held

NO_NUMBERS = (-1, -LARGE, True, False, "0", (0,), [0], (0, 1), (), 10 ** 5000) + ODD_THINGS[1:]


def house_of(book):
    house = House()
    for deed in book:
        house.enter(deed)
    return house


def first_behind(book, to, amount, lot):
    """By walking deed by deed: the number of the first one behind which there is what is wished, or None."""
    web = NOBODY
    for number, deed in enumerate(book):
        web = web_after(web, deed)
        if to in web[0]:
            has = sum(Fraction(*row[2]) for row in web[1] if row[0] == to and lot in (None, row[1]))
            if has >= Fraction(*amount):
                return number
    return None


class TestHouse(Refusing):
    def no_place(self, number, call, /, *args, **named):
        self.refused(errors.NoPlace, {"number": number}, call, *args, **named)

    def stands(self, house, book):
        """The house keeps just this book."""
        self.assertEqual(house.book(), book)
        self.assertIs(type(house.book()), tuple)
        self.assertEqual(house.web(), web_of(book))
        self.assertEqual(len(house), len(book))
        self.assertIs(bool(house), len(book) > 0)
        self.assertEqual(str(house), show_book(book))
        self.assertEqual(repr(house), f"House({len(book)})")

    def test_deeds_behind_all(self):
        house = House()
        self.stands(house, ())
        for many, deed in enumerate(BOOK):
            self.assertIsNone(house.enter(deed, at=many if many % 3 == 0 else None))
            self.stands(house, BOOK[:many + 1])
            self.assertEqual(house.web(), BOOK_WEBS[many])

    def test_deeds_ahead_of_a_number(self):
        house = house_of(BOOK)
        self.assertIsNone(house.enter(("come", "dan"), at=0))
        self.stands(house, (("come", "dan"),) + BOOK)
        house.enter(at=4, deed=("hand", "ann", "dan", "wheat", 1))
        book = (("come", "dan"),) + BOOK[:3] + (("hand", "ann", "dan", "wheat", 1),) + BOOK[3:]
        self.stands(house, book)
        house.enter(("go", "dan"), at=len(book))
        self.stands(house, book + (("go", "dan"),))
        house.enter(("go", "cat"), at=None)
        self.stands(house, book + (("go", "dan"), ("go", "cat")))

    def test_deeds_struck(self):
        house = house_of(BOOK)
        self.assertIsNone(house.strike(9))
        self.stands(house, BOOK[:9])
        self.assertIsNone(house.strike(number=8))
        house.strike(5)
        self.stands(house, BOOK[:5] + BOOK[6:8])
        # Others have come to stand at the numbers behind it.
        self.fails(5, "nobody", house.strike, 5)
        house.strike(6)
        house.strike(5)
        self.stands(house, BOOK[:5])

    def test_a_deed_on_which_a_later_one_rests(self):
        house = house_of(BOOK)
        before = house.book()
        for number in range(len(BOOK)):
            left = BOOK[:number] + BOOK[number + 1:]
            failed = fails_at(left)
            if failed is not None:
                self.fails(failed[0], failed[1], house.strike, number)
                self.stands(house, before)
            else:
                house.strike(number)
                self.stands(house, left)
                house.back()
                self.stands(house, before)
        self.fails(3, "nobody", house.strike, 0)
        self.fails(1, "nobody", house.strike, 1)
        self.fails(3, "less", house.strike, 2)
        self.fails(4, "lot", house.strike, 3)

    def test_deeds_that_later_ones_do_not_stand_behind(self):
        house = house_of(BOOK)
        self.fails(10, "there", house.enter, ("come", "ann"))
        self.fails(1, "there", house.enter, ("come", "ben"), at=0)
        self.fails(0, "nobody", house.enter, ("go", "ann"), at=0)
        # The deed itself can be done there; the number is that of the later one in the book that would be.
        self.fails(3, "nobody", house.enter, ("go", "ann"), at=2)
        self.fails(3, "lot", house.enter, ("bring", "ben", "wheat", 1), at=2)
        self.fails(9, "less", house.enter, ("forget", "ben", "ann", 4), at=8)
        self.stands(house, BOOK)

    def test_back(self):
        house = House()
        self.refused(errors.NoBack, {}, house.back)
        house.enter(("come", "ann"))
        self.assertIsNone(house.back())
        self.stands(house, ())
        self.refused(errors.NoBack, {}, house.back)
        for deed in BOOK:
            house.enter(deed)
        house.strike(9)
        house.enter(("come", "dan"), at=0)
        house.back()
        self.stands(house, BOOK[:9])
        house.back()
        self.stands(house, BOOK)
        for many in range(len(BOOK), 0, -1):
            self.stands(house, BOOK[:many])
            house.back()
        self.stands(house, ())
        self.refused(errors.NoBack, {}, house.back)
        # What is taken back is not taken back again by a later one.
        house.enter(("come", "ann"))
        house.enter(("come", "ben"))
        house.back()
        house.enter(("come", "cat"))
        house.back()
        house.back()
        self.stands(house, ())

    def test_back_behind_what_was_refused(self):
        house = house_of(BOOK[:3])
        house.strike(0)
        for call, args in (
            (house.enter, (("come", "ann"),)), (house.enter, (None,)), (house.strike, (0,)), (house.strike, (2,)),
            (house.unwish, (0,)), (house.wish, ("chest", ONE)),
        ):
            with self.assertRaises((ValueError, LookupError, ArithmeticError)):
                call(*args)
            self.stands(house, BOOK[1:3])
        with self.assertRaises(errors.NoPlace):
            house.enter(("come", "ben"), at=3)
        house.back()
        self.stands(house, BOOK[:3])

    def test_sixty_deeds_and_a_further_one(self):
        house = House()
        for many in range(30):
            house.enter(("come", "ann"))
            house.enter(("go", "ann"))
        self.assertEqual(len(house), 60)
        before = house.book()
        for at in (None, 0, 30, 60):
            with self.assertRaises(errors.TooMany) as caught:
                house.enter(("come", "ann"), at=at)
            self.assertEqual(vars(caught.exception), {"many": 61})
            self.assertIsInstance(caught.exception, errors.StandError)
            # That it wouldn't stand is not asked.
            self.assertRaises(errors.TooMany, house.enter, ("go", "ann"), at=at)
            self.no_deed(None, house.enter, None, at=at)
        self.no_place(61, house.enter, ("come", "ann"), at=61)
        self.no_place(-1, house.enter, ("come", "ann"), at=-1)
        self.stands(house, before)
        house.back()
        self.stands(house, before[:-1])
        house.enter(("go", "ann"), at=59)
        self.stands(house, before)
        self.assertRaises(errors.TooMany, house.enter, ("come", "ann"))

    def test_many_deeds_put_in_struck_and_taken_back(self):
        for number in range(6):
            source, house, books = random.Random(number), House(), [()]
            pool = made_book(number + 100)
            for _ in range(250):
                now, many = books[-1], len(books[-1])
                turn = source.random()
                if turn < 0.55:
                    at = source.choice((None, None, source.randrange(many + 1)))
                    place = many if at is None else at
                    deed = pool[len(now) % len(pool)] if source.random() < 0.6 else source.choice(pool)
                    wanted = now[:place] + (deed,) + now[place:]
                    act = lambda: house.enter(deed, at=at)
                elif turn < 0.8 and many > 0:
                    place = source.randrange(many)
                    wanted = now[:place] + now[place + 1:]
                    act = lambda: house.strike(place)
                elif len(books) > 1:
                    books.pop()
                    house.back()
                    self.stands(house, books[-1])
                    continue
                else:
                    self.assertRaises(errors.NoBack, house.back)
                    continue
                if len(wanted) > 60:
                    self.assertRaises(errors.TooMany, act)
                elif fails_at(wanted) is not None:
                    self.fails(*fails_at(wanted), act)
                else:
                    self.assertIsNone(act())
                    books.append(wanted)
                self.assertEqual(house.book(), books[-1])
            self.stands(house, books[-1])

    def test_refusals_of_deeds_and_places(self):
        house = house_of(BOOK)
        for thing in NO_DEEDS:
            self.no_deed(thing, house.enter, thing)
            self.no_deed(thing, house.enter, at=None, deed=thing)
            for at in (0, 11, -1, True, "0"):
                self.no_deed(thing, house.enter, thing, at=at)
        for number in NO_NUMBERS + (11, 60):
            self.no_place(number, house.enter, ("come", "dan"), at=number)
            # That it could not be done anyway does not matter.
            self.no_place(number, house.enter, ("go", "zoe"), at=number)
            self.no_place(number, house.strike, number)
        self.no_place(None, house.strike, None)
        self.no_place(10, house.strike, 10)
        self.no_place(0, House().strike, 0)
        self.no_place(1, House().enter, ("come", "ann"), at=1)
        self.stands(house, BOOK)
        self.assertEqual(house, house_of(BOOK))

    def test_what_was_told_stays_as_it_was(self):
        house = house_of(BOOK[:4])
        book, web, wishes = house.book(), house.web(), house.wishes()
        house.wish("ann", ONE)
        house.enter(("come", "dan"))
        house.strike(0)
        self.assertEqual((book, web, wishes), (BOOK[:4], BOOK_WEBS[3], ()))
        other = House()
        for deed in book:
            other.enter(deed)
        self.assertEqual(other.book(), book)


class TestWishes(Refusing):
    def no_place(self, number, call, /, *args, **named):
        self.refused(errors.NoPlace, {"number": number}, call, *args, **named)

    def test_written_out(self):
        house = House()
        self.assertEqual(house.wishes(), ())
        self.assertEqual(house.wish("ann", (6, 1)), 0)
        self.assertEqual(house.wish("ben", (0, 1)), 1)
        self.assertEqual(house.wish(amount=(3, 1), lot="rye", to="ben"), 2)
        self.assertEqual(house.wish("ann", (0, 1), lot="hay"), 3)
        self.assertEqual(house.wish("zoe", (0, 1)), 4)
        self.assertEqual(house.wish("ann", (9, 1), lot=None), 5)
        self.assertEqual(house.wish("ben", (1, 2), lot="zoe"), 6)
        self.assertEqual(house.wishes(), tuple((number, None) for number in range(7)))
        for deed in BOOK:
            house.enter(deed)
        # ann has 6 behind deed 2, 8 behind deed 3; ben 7/4 of rye at most; nobody brings hay, and zoe never comes.
        self.assertEqual(house.wishes(), ((0, 2), (1, 0), (2, None), (3, 1), (4, None), (5, None), (6, None)))
        house.enter(("come", "zoe"))
        house.enter(("bring", "ann", "zoe", 3))
        self.assertEqual(house.wishes(), ((0, 2), (1, 0), (2, None), (3, 1), (4, 10), (5, 11), (6, None)))
        self.assertIsNone(house.unwish(1))
        self.assertIsNone(house.unwish(number=5))
        self.assertEqual(house.wishes(), ((0, 2), (2, None), (3, 1), (4, 10), (6, None)))
        # The number of a dropped one isn't given again.
        house.unwish(6)
        self.assertEqual(house.wish("ann", (6, 1)), 7)
        self.assertEqual(house.wishes(), ((0, 2), (2, None), (3, 1), (4, 10), (7, 2)))

    def test_just_the_amount_a_little_less_and_more(self):
        house = house_of(BOOK)
        # ben has 9/4 of wheat behind deed 4, and 5/4 behind deed 7.
        little = Fraction(1, LARGE)
        for amount, first in ((Fraction(9, 4), 4), (Fraction(9, 4) + little, None), (Fraction(9, 4) - little, 4),
            (little, 4)):
            number = house.wish("ben", told(amount), lot="wheat")
            self.assertEqual(house.wishes()[-1], (number, first))

    def test_back_and_strike_leave_them_as_they_are(self):
        house = House()
        house.enter(("come", "ann"))
        number = house.wish("ann", (3, 1))
        house.enter(("bring", "ann", "rye", 3))
        self.assertEqual(house.wishes(), ((number, 1),))
        house.back()
        self.assertEqual(house.wishes(), ((number, None),))
        house.enter(("bring", "ann", "rye", 4))
        house.enter(("come", "ben"), at=0)
        self.assertEqual(house.wishes(), ((number, 2),))
        house.unwish(number)
        house.back()
        house.back()
        self.assertEqual(house.wishes(), ())
        self.assertEqual(house.wish("ann", ONE), 1)
        house.back()
        self.refused(errors.NoBack, {}, house.back)
        self.assertEqual(house.wishes(), ((1, None),))

    def test_as_walking_deed_by_deed_says(self):
        seen = set()
        for number in range(12):
            source, book = random.Random(number), made_book(number + 20, many=40)
            if fails_at(book) is not None:
                book = book[:-1]
            house, wanted = house_of(book), []
            for place in range(40):
                to, lot = source.choice(EIGHT + ("zoe",)), source.choice((None, None) + EIGHT_LOTS + ("zzz",))
                amount = told(Fraction(source.randrange(60), source.randrange(1, 7)))
                if source.random() < 0.3:
                    web = web_of(book[:source.randrange(len(book))])
                    to = source.choice(web[0]) if web[0] else to
                    lot = lot if lot in {row[1] for row in web[1]} else None
                    amount = held(web, to, lot=lot) if to in web[0] else amount
                self.assertEqual(house.wish(to, amount, lot=lot), place)
                wanted.append((place, first_behind(book, to, amount, lot)))
                if source.random() < 0.2:
                    house.unwish(place)
                    wanted.pop()
            self.assertEqual(house.wishes(), tuple(wanted))
            seen |= {row[1] for row in wanted}
        self.assertIn(None, seen)
        self.assertGreater(len(seen), 15)

    def test_refusals(self):
        house = house_of(BOOK)
        house.wish("ann", ONE)
        house.wish("ann", (2, 1))
        house.unwish(0)
        before = house.wishes()
        for name in ("chest", "Ann", "abcdefghi", "", ("ann",), ["ann"], {}, 0, True) + ODD_THINGS:
            self.no_name(name, house.wish, name, ONE)
            self.no_name(name, house.wish, name, None, lot="chest")
        for amount in ODD_THINGS + NO_AMOUNTS[1:] + ((-1, 3), (0, 2), (0, -1)):
            self.no_amount(amount, house.wish, "ann", amount)
            self.no_amount(amount, house.wish, amount=amount, to="zoe", lot=0)
        for lot in ("chest", "Rye", "", "abcdefghi", ("rye",), ["rye"], {}, 0, False, True) + ODD_THINGS[1:]:
            self.no_lot(lot, house.wish, "ann", ONE, lot=lot)
        for number in NO_NUMBERS + (2, 0, None):
            self.no_place(number, house.unwish, number)
        self.no_place(0, house.unwish, number=0)
        self.assertEqual(house.wishes(), before)
        # What was refused took no number.
        self.assertEqual(house.wish("ann", ONE), 2)
        self.no_place(0, House().unwish, 0)
        self.assertIn("zzz", NO_LOTS)


class TestLikeness(Refusing):
    def test_books(self):
        house, other = house_of(BOOK), house_of(BOOK)
        self.assertTrue(house == other)
        self.assertFalse(house != other)
        self.assertTrue(House() == House())
        other.strike(9)
        self.assertFalse(house == other)
        self.assertTrue(house != other)
        other.back()
        self.assertTrue(house == other)
        # How a book came to be does not matter, nor what can be taken back.
        house.strike(9)
        house.enter(BOOK[9])
        self.assertTrue(house == other)
        # Of one web alone they are not alike.
        one, two = house_of((("come", "ann"), ("come", "ben"))), house_of((("come", "ben"), ("come", "ann")))
        self.assertEqual(one.web(), two.web())
        self.assertTrue(one != two)

    def test_wishes(self):
        house, other = House(), House()
        house.wish("ann", ONE)
        self.assertTrue(house != other)
        other.wish("ann", ONE, lot="rye")
        self.assertTrue(house != other)
        # The numbers count: the same wish is 0 here and 1 there.
        other.wish("ann", ONE)
        other.unwish(0)
        self.assertTrue(house != other)
        house.wish("ann", ONE)
        house.unwish(0)
        self.assertTrue(house == other)
        house.unwish(1)
        other.unwish(1)
        # What is dropped does not.
        self.assertTrue(house == other == House())
        house.wish("ann", ONE)
        other.wish("ann", (2, 1))
        self.assertTrue(house != other)

    def test_things_of_another_kind(self):
        house = house_of(BOOK)
        for thing in ODD_THINGS + (BOOK, str(house), 10, repr(house), house.web(), (house,)):
            self.assertIs(house == thing, False)
            self.assertIs(house != thing, True)
            self.assertIs(House() == thing, False)
        self.assertIn(ANY, ODD_THINGS[-5:])

    def test_interface(self):
        self.assertEqual(House.__module__, "thankways.house")
        for name, wanted in (
            ("__init__", "(self)"), ("enter", "(self, deed, *, at=None)"), ("strike", "(self, number)"), ("back", "(self)"),
            ("wish", "(self, to, amount, *, lot=None)"), ("unwish", "(self, number)"), ("wishes", "(self)"),
            ("book", "(self)"), ("web", "(self)"), ("__len__", "(self)"), ("__eq__", "(self, other)"),
            ("__str__", "(self)"), ("__repr__", "(self)"),
        ):
            self.assertEqual(str(inspect.signature(vars(House)[name])), wanted)
        with self.assertRaises(TypeError):
            House().enter(("come", "ann"), 0)
        with self.assertRaises(TypeError):
            House().wish("ann", ONE, "rye")
