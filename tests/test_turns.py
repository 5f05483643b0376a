"""Books turned about (points 2, 3 and 16)."""

import inspect

from tests import model
from tests.refusing import Refusing
from tests.samples import EIGHT, LARGE
from tests.test_walking import BOOK, NO_DEEDS, made_book
from tests.things import ODD_THINGS
from thankways import errors
from thankways.turns import touched, turns
from thankways.walking import fails_at, web_of

# A ring of three, another one, and all of them go.
GOINGS = (
    ("come", "ann"), ("come", "ben"), ("come", "cat"), ("come", "dan"), ("bring", "ann", "rye", 9),
    ("give", "ann", "ben", 5),
    ("give", "ben", "cat", 3), ("give", "cat", "dan", 2), ("give", "dan", "ann", 1), ("give", "ben", "dan", 1),
    ("go", "ann"), ("go", "ben"), ("go", "cat"),
)


def web_by_the_model(book):
    """The web that a book makes, or None where it doesn't stand."""
    mirror = model.Model()
    for deed in book:
        if mirror.fault(deed) is not None:
            return None
        mirror.do(deed)
    return mirror.web()


def exchanged(book, number):
    return book[:number] + (book[number + 1], book[number]) + book[number + 2:]


def turns_by_the_model(book):
    web = web_by_the_model(book)
    return tuple(k for k in range(len(book) - 1) if web_by_the_model(exchanged(book, k)) == web)


def touched_by_the_model(book, number):
    """Each one's being there, goods and thanks, of both webs."""
    other = web_by_the_model(book[:number] + book[number + 1:])
    if other is None:
        return None
    webs, names = (web_by_the_model(book), other), []
    for name in sorted({"chest", *webs[0][0], *webs[1][0]}):
        standings = [
            (name in web[0], [row for row in web[1] if row[0] == name], [row for row in web[2] if row[0] == name])
            for web in webs
        ]
        if standings[0] != standings[1]:
            names.append(name)
    return tuple(names)


def standing_books():
    for number in range(25):
        book = made_book(number, many=12 + number)
        yield book if fails_at(book) is None else book[:-1]


class TestTurns(Refusing):
    def test_written_out(self):
        self.assertEqual(turns(()), ())
        self.assertEqual(turns((("come", "ann"),)), ())
        self.assertEqual(turns((("come", "ann"), ("come", "ben"))), (0,))
        self.assertEqual(turns((("come", "ann"), ("go", "ann"))), ())
        self.assertEqual(turns((("come", "ann"), ("bring", "ann", "rye", 1))), ())
        self.assertEqual(turns((("come", "ann"), ("bring", "ann", "rye", 1), ("come", "ben"), ("go", "ann"))), (1, 2))
        self.assertEqual(turns(BOOK), turns_by_the_model(BOOK))
        self.assertEqual(turns(BOOK), (0, 2, 3, 4, 5, 7))

    def test_goings_beside_each_other(self):
        self.assertEqual(turns(GOINGS)[-2:], (10, 11))
        book = tuple(("come", name) for name in EIGHT) + tuple(("go", name) for name in EIGHT)
        self.assertEqual(turns(book), tuple(range(15)))
        for number in range(15):
            book = made_book(number, many=30)
            book = book if fails_at(book) is None else book[:-1]
            people = web_of(book)[0]
            gone = book + tuple(("go", name) for name in people)
            self.assertGreaterEqual(set(turns(gone)), set(range(len(book), len(gone) - 1)))

    def test_that_stand_but_make_another_web(self):
        # ben gives what cat gave it, or what it had.
        book = (
            ("come", "ann"), ("come", "ben"), ("come", "cat"), ("bring", "ben", "rye", 4), ("bring", "cat", "oats", 4),
            ("give", "cat", "ben", 4), ("give", "ben", "ann", 2),
        )
        self.assertIsNone(fails_at(exchanged(book, 5)))
        self.assertEqual(turns(book), (0, 1, 2, 3))
        # What is between them may be otherwise, so long as the last web isn't.
        self.assertEqual(turns(book + (("go", "ann"), ("go", "ben"), ("go", "cat")))[-2:], (7, 8))

    def test_the_last_web_alone_counts(self):
        book = (("come", "ann"), ("bring", "ann", "rye", 2), ("come", "ben"), ("give", "ann", "ben", 1),
            ("forget", "ben", "ann", 1))
        self.assertEqual(turns(book), (1,))
        book = (
            ("come", "ann"), ("come", "ben"), ("bring", "ann", "rye", 2), ("bring", "ben", "oats", 3),
            ("give", "ann", "ben", 1),
            ("give", "ben", "ann", 1), ("go", "ann"), ("go", "ben"),
        )
        self.assertIn(4, turns(book))
        self.assertNotIn(4, turns(book[:6]))

    def test_as_the_model_tells(self):
        for book in standing_books():
            self.assertEqual(turns(book), turns_by_the_model(book))

    def test_sixty_deeds(self):
        book = made_book(4)
        self.assertEqual((len(book), fails_at(book)), (60, None))
        self.assertEqual(turns(book), turns_by_the_model(book))

    def test_interface(self):
        self.assertEqual(str(inspect.signature(turns)), "(book)")
        self.assertEqual(turns.__module__, "thankways.turns")
        self.assertEqual(turns(book=(("come", "ann"), ("come", "ben"))), (0,))


class TestTouched(Refusing):
    def test_written_out(self):
        self.assertEqual(touched((("come", "ann"),), 0), ("ann",))
        self.assertEqual(touched((("come", "ann"), ("bring", "ann", "rye", 1)), 1), ("ann",))
        self.assertIsNone(touched((("come", "ann"), ("bring", "ann", "rye", 1)), 0))
        # The chest holds what was brought.
        self.assertEqual(touched((("come", "ann"), ("bring", "ann", "rye", 1), ("go", "ann")), 1), ("chest",))
        self.assertEqual(touched((("come", "ann"), ("bring", "ann", "rye", 1), ("go", "ann")), 2), ("ann", "chest"))
        self.assertEqual(touched((("come", "ann"), ("go", "ann")), 1), ("ann",))
        self.assertIsNone(touched((("come", "ann"), ("go", "ann"), ("come", "ann")), 1))
        self.assertEqual([touched(BOOK, number) for number in range(10)], [
            None, None, None, None, None, (), None, ("ann", "cat"), (), ("ann", "ben", "cat"),
        ])

    def test_nobody(self):
        # ben thanks ann, whether for more or less, and goes.
        self.assertEqual(touched(BOOK, 8), ())
        self.assertEqual(touched((("come", "ann"), ("bring", "ann", "rye", 2), ("come", "ben"), ("give", "ann", "ben", 1),
                                  ("go", "ben")), 3), ())

    def test_who_thanks_otherwise_is_touched_not_who_is_thanked(self):
        book = (
            ("come", "ann"), ("come", "ben"), ("bring", "ann", "rye", 2), ("give", "ann", "ben", 1),
            ("forget", "ben", "ann", 1),
        )
        self.assertEqual(touched(book, 4), ("ben",))

    def test_a_lot_called_as_somebody_is(self):
        book = (
            ("come", "ann"), ("come", "ben"), ("come", "cat"), ("bring", "cat", "ben", 1), ("bring", "ben", "rye", 1),
            ("give", "ben", "ann", 1), ("give", "cat", "ann", 1), ("give", "ann", "cat", 1),
        )
        for number in range(len(book)):
            self.assertEqual(touched(book, number), touched_by_the_model(book, number))
        # With and without the last deed ann holds just so much of the lot ben as it thanks ben for.
        book = (("come", "ann"), ("come", "ben"), ("bring", "ben", "ben", 1), ("give", "ben", "ann", 1),
            ("forget", "ann", "ben", 1))
        self.assertEqual(touched(book, 4), ("ann",))

    def test_as_the_model_tells(self):
        seen = set()
        for book in standing_books():
            for number in range(len(book)):
                wanted = touched_by_the_model(book, number)
                self.assertEqual(touched(book, number), wanted)
                seen.add(None if wanted is None else len(wanted))
        self.assertGreaterEqual(seen, {None, 0, 1, 2, 3})

    def test_interface(self):
        self.assertEqual(str(inspect.signature(touched)), "(book, number)")
        self.assertEqual(touched.__module__, "thankways.turns")
        self.assertEqual(touched(number=0, book=(("come", "ann"),)), ("ann",))


class TestRefusals(Refusing):
    def test_books(self):
        for thing in ODD_THINGS + (list(BOOK), dict.fromkeys(BOOK), "come ann", 3):
            number = 0 if isinstance(thing, tuple) else None
            self.no_book(number, turns, thing)
            self.no_book(number, touched, thing, 0)
            self.no_book(number, touched, book=thing, number=None)
        for deed in NO_DEEDS:
            self.no_book(5, turns, BOOK[:5] + (deed,) + BOOK[5:])
            self.no_book(5, touched, BOOK[:5] + (deed,) + BOOK[5:], -1)
        self.no_book(None, turns, (("come", "ann"),) * 61)
        self.no_book(None, touched, (("come", "ann"),) * 61, 0)

    def test_books_that_do_not_stand(self):
        for book, number, word in (
            ((("go", "ann"),), 0, "nobody"), (BOOK + (("come", "ann"),), 10, "there"),
            (BOOK[:4] + (("give", "ann", "ben", 9),), 4, "less"),
            # Exchanged they would stand.
            ((("bring", "ann", "rye", 1), ("come", "ann")), 0, "nobody"),
        ):
            self.fails(number, word, turns, book)
            for place in (0, number, None, -1, "0"):
                self.fails(number, word, touched, book, place)

    def test_numbers(self):
        for number in (-1, len(BOOK), LARGE, -LARGE, True, False, "0", (0,), [0], (0, 1), 10 ** 5000) + ODD_THINGS:
            self.refused(errors.NoPlace, {"number": number}, touched, BOOK, number)
        self.refused(errors.NoPlace, {"number": 0}, touched, (), 0)
