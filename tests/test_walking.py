"""Which deeds can be done, and the webs that deeds and books make (points 2, 3, 5 and 6)."""

import copy
import inspect
import random
from fractions import Fraction

from tests import model
from tests.refusing import Refusing
from tests.samples import (
    ALL, BOTH, CHEST_ALONE, EIGHT, EIGHT_LOTS, FULL, NO_WEBS, NOBODY, ONE, ONE_ALONE, PAIR, ROW, SMALL,
)
from tests.things import ODD_THINGS
from thankways.goings import after
from thankways.walking import fails_at, web_after, web_of
from thankways.webs import held, is_web

BOOK = (
    ("come", "ben"), ("come", "ann"), ("bring", "ann", "wheat", 6), ("bring", "ann", "rye", 2), ("give", "ann", "ben", 3),
    ("hand", "ann", "ben", "rye", 1), ("come", "cat"), ("hand", "ben", "cat", "wheat", 1), ("forget", "ben", "ann", 1),
    ("go", "ben"),
)
# The web behind each deed of the book.
BOOK_WEBS = (
    (("ben",), (), ()),
    (("ann", "ben"), (), ()),
    (("ann", "ben"), (("ann", "wheat", (6, 1)),), ()),
    (("ann", "ben"), (("ann", "rye", (2, 1)), ("ann", "wheat", (6, 1))), ()),
    (
        ("ann", "ben"),
        (("ann", "rye", (5, 4)), ("ann", "wheat", (15, 4)), ("ben", "rye", (3, 4)), ("ben", "wheat", (9, 4))),
        (("ben", "ann", (3, 1)),),
    ),
    (
        ("ann", "ben"),
        (("ann", "rye", (1, 4)), ("ann", "wheat", (15, 4)), ("ben", "rye", (7, 4)), ("ben", "wheat", (9, 4))),
        (("ben", "ann", (4, 1)),),
    ),
    (
        ("ann", "ben", "cat"),
        (("ann", "rye", (1, 4)), ("ann", "wheat", (15, 4)), ("ben", "rye", (7, 4)), ("ben", "wheat", (9, 4))),
        (("ben", "ann", (4, 1)),),
    ),
    (
        ("ann", "ben", "cat"),
        (
            ("ann", "rye", (1, 4)), ("ann", "wheat", (15, 4)), ("ben", "rye", (7, 4)), ("ben", "wheat", (5, 4)),
            ("cat", "wheat", (1, 1)),
        ),
        (("ben", "ann", (4, 1)), ("cat", "ben", (1, 1))),
    ),
    (
        ("ann", "ben", "cat"),
        (
            ("ann", "rye", (1, 4)), ("ann", "wheat", (15, 4)), ("ben", "rye", (7, 4)), ("ben", "wheat", (5, 4)),
            ("cat", "wheat", (1, 1)),
        ),
        (("ben", "ann", (3, 1)), ("cat", "ben", (1, 1))),
    ),
    (
        ("ann", "cat"),
        (("ann", "rye", (2, 1)), ("ann", "wheat", (5, 1)), ("cat", "wheat", (1, 1))),
        (("cat", "ann", (1, 1)),),
    ),
)
NO_DEEDS = ODD_THINGS + (
    ["come", "ann"], ("come",), ("come", "chest"), ("come", "ann", 1), ("take", "ann", "ben", 1), "come ann", b"come ann",
    ("give", "ann", "ann", 1), ("give", "ann", "ben", 0), ("give", "ann", "ben", 10000), ("give", "ann", "ben", True),
    ("give", "ann", "ben", (1, 1)), ("give", "ann", "chest", 1), ("give", "chest", "ann", 1), ("hand", "ann", "ben", 1),
    ("bring", "ann", "chest", 1), ("forget", "chest", "ann", 1), ("go", "ann", "ben"), ("go", ["ann"]), (("go", "ann"),),
)


def deeds_about(people, lots):
    """Deeds of all words about people and lots, some who aren't there among them."""
    names, things, many = people + ("zoe",), lots + ("zzz",), (1, 2, 9999)
    for who in names:
        yield from (("come", who), ("go", who))
        yield from (("bring", who, lot, 3) for lot in things)
        for to in names + ("chest",):
            if to != who:
                yield from (("forget", who, to, number) for number in many)
                if to != "chest":
                    yield from (("give", who, to, number) for number in many)
                    yield from (("hand", who, to, lot, number) for lot in things for number in many)


def made_book(number, many=60):
    """A book by a number, of deeds of which most can be done."""
    source = random.Random(number)
    mirror, book = model.Model(), []
    while len(book) < many:
        deed = some_deed(source, mirror)
        if deed is not None and (mirror.fault(deed) is None or source.random() < 0.002):
            book.append(deed)
            if mirror.fault(deed) is not None:
                break
            mirror.do(deed)
    return tuple(book)


def some_deed(source, mirror):
    word = source.choice(("come", "come", "bring", "bring", "give", "give", "give", "hand", "hand", "forget", "go"))
    who, to = source.sample(EIGHT, 2)
    if word in ("come", "go"):
        return (word, who) if word == "come" or source.random() < 0.4 else None
    if word == "bring":
        return (word, who, source.choice(EIGHT_LOTS), source.randrange(1, 40))
    if word == "hand":
        return (word, who, to, source.choice(EIGHT_LOTS), source.randrange(1, 9))
    return (word, who, to, source.randrange(1, 9))


class TestFailsAt(Refusing):
    def test_books_that_stand(self):
        for many in range(len(BOOK) + 1):
            self.assertIsNone(fails_at(BOOK[:many]))
            self.assertIsNone(fails_at(book=BOOK[:many]))

    def test_written_out(self):
        ahead = BOOK[:9]
        for deed, word in (
            (("come", "ann"), "there"), (("bring", "dan", "hay", 1), "nobody"), (("give", "dan", "ann", 1), "nobody"),
            (("give", "ann", "dan", 1), "nobody"), (("hand", "dan", "ann", "rye", 1), "nobody"), (("go", "dan"), "nobody"),
            (("hand", "ann", "dan", "rye", 1), "nobody"), (("forget", "dan", "ann", 1), "nobody"),
            (("forget", "ann", "dan", 1), "nobody"), (("forget", "dan", "chest", 1), "nobody"),
            (("bring", "ann", "rye", 1), "lot"), (("bring", "cat", "rye", 1), "lot"),
            (("hand", "ann", "cat", "hay", 1), "lot"), (("give", "ann", "cat", 5), "less"),
            (("hand", "ann", "cat", "rye", 1), "less"), (("hand", "cat", "ann", "rye", 1), "less"),
            (("hand", "cat", "ann", "wheat", 2), "less"), (("forget", "ben", "ann", 4), "less"),
            (("forget", "ann", "ben", 1), "less"), (("forget", "ann", "chest", 1), "less"),
        ):
            self.assertEqual(fails_at(ahead + (deed,)), (9, word), deed)
            self.assertEqual(fails_at(ahead + (deed,) + BOOK[9:] + (deed, deed)), (9, word), deed)
            self.fails(9, word, web_of, ahead + (deed,))
            self.fails(None, word, web_after, BOOK_WEBS[8], deed)
        for deed in (("give", "ann", "cat", 4), ("hand", "cat", "ann", "wheat", 1), ("forget", "ben", "ann", 3)):
            self.assertIsNone(fails_at(ahead + (deed,)))

    def test_the_first_word_where_several_are_due(self):
        self.fails(None, "there", web_after, FULL, ("come", "ann"))
        self.fails(None, "full", web_after, FULL, ("come", "zoe"))
        self.fails(None, "nobody", web_after, FULL, ("bring", "zoe", "rye", 1))
        self.fails(None, "nobody", web_after, FULL, ("bring", "zoe", "zzz", 1))
        self.fails(None, "lot", web_after, FULL, ("bring", "ann", "rye", 1))
        self.fails(None, "full", web_after, FULL, ("bring", "ann", "zzz", 1))
        self.fails(None, "nobody", web_after, FULL, ("hand", "ann", "zoe", "zzz", 9999))
        self.fails(None, "nobody", web_after, FULL, ("hand", "zoe", "ann", "rye", 9999))
        self.fails(None, "lot", web_after, FULL, ("hand", "ann", "ben", "zzz", 9999))
        self.fails(None, "less", web_after, FULL, ("hand", "ann", "ben", "rye", 9999))
        self.fails(None, "nobody", web_after, FULL, ("give", "zoe", "ben", 9999))
        self.fails(None, "nobody", web_after, FULL, ("give", "ann", "zoe", 9999))
        self.fails(None, "nobody", web_after, FULL, ("forget", "ann", "zoe", 9999))

    def test_the_first_deed_that_fails(self):
        self.assertEqual(fails_at((("go", "ann"),)), (0, "nobody"))
        self.assertEqual(fails_at((("come", "ann"), ("go", "ben"), ("come", "ann"))), (1, "nobody"))
        self.assertEqual(fails_at((("come", "ann"), ("come", "ann"), ("go", "ben"))), (1, "there"))
        self.assertEqual(fails_at((("come", "ann"),) + (("go", "ann"), ("come", "ann")) * 29 + (("come", "ann"),)), (59, "there"))

    def test_eight_people_and_eight_lots(self):
        book = tuple(("come", name) for name in EIGHT)
        self.assertIsNone(fails_at(book))
        self.assertEqual(fails_at(book + (("come", "ida"),)), (8, "full"))
        self.assertIsNone(fails_at(book + (("go", "ann"), ("come", "ida"))))
        self.assertIsNone(fails_at(book + (("go", "ann"), ("come", "ann"))))
        goods = tuple(("bring", "ann", lot, 1) for lot in EIGHT_LOTS)
        self.assertIsNone(fails_at(book + goods))
        self.assertEqual(fails_at(book + goods + (("bring", "ben", "zzz", 1),)), (16, "full"))
        self.assertEqual(fails_at(book + goods + (("go", "ann"), ("bring", "ben", "zzz", 1))), (17, "full"))
        self.assertEqual(fails_at(book + goods[:7] + (("go", "ann"), ("bring", "ben", "barley", 1))), (16, "lot"))
        self.assertIsNone(fails_at(book + goods[:7] + (("go", "ann"), ("bring", "ben", "wheat", 1))))

    def test_made_books(self):
        words = set()
        for number in range(60):
            book = made_book(number)
            mirror = model.Model()
            wanted = None
            for place, deed in enumerate(book):
                word = mirror.fault(deed)
                if word is not None:
                    wanted = (place, word)
                    words.add(word)
                    break
                mirror.do(deed)
            self.assertEqual(fails_at(book), wanted)
            if wanted is None:
                self.assertEqual(web_of(book), mirror.web())
            else:
                self.fails(wanted[0], wanted[1], web_of, book)
        self.assertGreaterEqual(words, {"nobody", "less"})

    def test_wrong_books(self):
        for call in (fails_at, web_of):
            for thing in ODD_THINGS + (list(BOOK), dict.fromkeys(BOOK), set(BOOK), "come ann", 3):
                self.no_book(0 if isinstance(thing, tuple) else None, call, thing)
            for deed in NO_DEEDS:
                for place in (0, 1, 5, len(BOOK)):
                    self.no_book(place, call, BOOK[:place] + (deed,) + BOOK[place:])
                    self.no_book(place, call, book=BOOK[:place] + (deed, deed) + BOOK[place:])
            # That a deed ahead cannot be done does not matter where another one is none.
            self.no_book(2, call, (("go", "ann"), ("go", "ann"), ["come", "ann"]))
            self.no_book(59, call, (("go", "ann"),) * 59 + (None,))
            for many in (61, 62, 100):
                self.no_book(None, call, (("come", "ann"),) * many)
                self.no_book(None, call, (None,) * many)
        self.assertEqual(fails_at((("come", "ann"),) * 60), (1, "there"))

    def test_interface(self):
        for call, wanted in ((fails_at, "(book)"), (web_of, "(book)"), (web_after, "(web, deed)")):
            self.assertEqual(str(inspect.signature(call)), wanted)
            self.assertEqual(call.__module__, "thankways.walking")


class TestWebs(Refusing):
    def test_a_book_deed_by_deed(self):
        self.assertEqual(web_of(()), NOBODY)
        web = NOBODY
        for number, deed in enumerate(BOOK):
            web = web_after(web, deed)
            self.assertEqual(web, BOOK_WEBS[number])
            self.assertEqual(web_of(BOOK[:number + 1]), web)
        self.assertEqual(web_of(book=BOOK), web)
        self.assertEqual(web_after(deed=("come", "dan"), web=ROW), (("ann", "ben", "cat", "dan"),) + ROW[1:])

    def test_deeds_on_webs(self):
        self.assertEqual(web_after(ROW, ("give", "ann", "cat", 6)), (
            ROW[0], (("ben", "wheat", (1, 2)), ("cat", "rye", (6, 1)), ("chest", "hay", (2, 3))),
            (("ann", "ben", (1, 1)), ("ben", "cat", (5, 3)), ("cat", "ann", (6, 1)), ("cat", "chest", (2, 1))),
        ))
        self.assertEqual(web_after(ROW, ("forget", "ben", "cat", 1))[2][1], ("ben", "cat", (2, 3)))
        self.assertEqual(web_after(ROW, ("forget", "cat", "chest", 2)), (ROW[0], ROW[1], ROW[2][:2]))
        self.assertEqual(web_after(ROW, ("forget", "cat", "chest", 1))[2][2], ("cat", "chest", (1, 1)))
        self.fails(None, "less", web_after, ROW, ("forget", "cat", "chest", 3))
        self.fails(None, "less", web_after, ROW, ("forget", "ben", "cat", 2))
        self.fails(None, "less", web_after, ROW, ("give", "ann", "cat", 7))
        self.fails(None, "less", web_after, ROW, ("give", "ben", "cat", 1))
        self.assertEqual(web_after(BOTH, ("give", "ann", "ben", 17))[1], (
            ("ben", "ann", (12, 1)), ("ben", "dan", (7, 2)), ("ben", "rye", (5, 1)), ("chest", "rye", (1, 7)),
        ))
        self.assertEqual(web_after(BOTH, ("give", "ann", "ben", 1))[1], (
            ("ann", "ann", (192, 17)), ("ann", "rye", (80, 17)), ("ben", "ann", (12, 17)), ("ben", "dan", (7, 2)),
            ("ben", "rye", (5, 17)), ("chest", "rye", (1, 7)),
        ))

    def test_a_lot_called_as_somebody_is(self):
        web = web_after(BOTH, ("hand", "ann", "dan", "ann", 12))
        self.assertEqual(web[1][0], ("ann", "rye", (5, 1)))
        self.assertIn(("dan", "ann", (12, 1)), web[1])
        self.assertIn(("dan", "ann", (12, 1)), web[2])
        self.fails(None, "lot", web_after, BOTH, ("bring", "cat", "ann", 1))
        self.assertIn(("cat", "cat", (1, 1)), web_after(BOTH, ("bring", "cat", "cat", 1))[1])

    def test_a_lot_that_the_chest_holds_stands(self):
        web = web_after(CHEST_ALONE, ("come", "ann"))
        self.fails(None, "lot", web_after, web, ("bring", "ann", "rye", 1))
        web = web_after(web_after(web, ("bring", "ann", "hay", 1)), ("come", "ben"))
        self.fails(None, "less", web_after, web, ("hand", "ann", "ben", "rye", 1))

    def test_who_comes_back_holds_and_thanks_nothing(self):
        web = web_after(web_after(PAIR, ("go", "ann")), ("come", "ann"))
        self.assertEqual(web[0], PAIR[0])
        self.assertEqual(web[1:], after(PAIR, ("ann",))[1:])
        self.assertNotIn("ann", [name for row in web[1] + web[2] for name in row[:2]])

    def test_measures(self):
        web = web_of((("come", "ann"), ("come", "ben"), ("bring", "ann", "rye", 9999)))
        self.assertEqual(web[1], (("ann", "rye", (9999, 1)),))
        for words in (("give", "ann", "ben"), ("hand", "ann", "ben", "rye")):
            given = web_after(web, words + (9999,))
            self.assertEqual(given[1:], ((("ben", "rye", (9999, 1)),), (("ben", "ann", (9999, 1)),)))
            self.fails(None, "less", web_after, given, words + (1,))
            self.assertEqual(web_after(given, ("forget", "ben", "ann", 9999))[2], ())
            self.assertEqual(web_after(web, words + (1,))[1], (("ann", "rye", (9998, 1)), ("ben", "rye", (1, 1))))

    def test_going_is_as_after_tells(self):
        for web in ALL:
            for name in web[0]:
                self.assertEqual(web_after(web, ("go", name)), after(web, (name,)))

    def test_all_deeds_on_webs(self):
        seen = set()
        for web in SMALL[:17] + (FULL,):
            people, lots = web[0][:4], tuple(sorted({row[1] for row in web[1]}))[:2]
            for deed in deeds_about(people, lots):
                word = model.Model(web).fault(deed)
                seen.add((deed[0], word))
                if word is not None:
                    self.fails(None, word, web_after, web, deed)
                else:
                    behind = web_after(web, deed)
                    self.assertEqual(behind, model.Model(web).do(deed).web(), (web, deed))
                    self.assertTrue(model.is_web(behind))
                    self.assertIs(is_web(behind), True)
        faults = {
            "come": ("there", "full"), "bring": ("nobody", "lot", "full"), "give": ("nobody", "less"),
            "hand": ("nobody", "lot", "less"), "forget": ("nobody", "less"), "go": ("nobody",),
        }
        self.assertEqual(seen, {(deed, word) for deed in faults for word in faults[deed] + (None,)})

    def test_nothing_is_lost(self):
        for number in range(20):
            book = made_book(number)
            if fails_at(book) is None:
                web = web_of(book)
                brought = {}
                for deed in book:
                    if deed[0] == "bring":
                        brought[deed[2]] = brought.get(deed[2], 0) + deed[3]
                for lot, many in brought.items():
                    there = sum(Fraction(*held(web, holder, lot=lot)) for holder in web[0] + ("chest",))
                    self.assertEqual(there, many)

    def test_refusals(self):
        for thing in NO_WEBS + ODD_THINGS:
            self.no_web(thing, web_after, thing, ("come", "ann"))
            self.no_web(thing, web_after, thing, thing)
        for thing in NO_DEEDS:
            self.no_deed(thing, web_after, ROW, thing)
            self.no_deed(thing, web_after, deed=thing, web=ROW)

    def test_what_is_handed_in_stays_as_it_was(self):
        book, web = copy.deepcopy(BOOK), copy.deepcopy(BOTH)
        web_of(book)
        for deed in deeds_about(("ann", "ben"), ("rye",)):
            try:
                web_after(web, deed)
            except ArithmeticError:
                pass
        self.assertEqual((book, web), (BOOK, BOTH))
        listed = [list(deed) for deed in BOOK]
        self.no_book(None, fails_at, listed)
        self.assertEqual(listed, [list(deed) for deed in BOOK])
        self.assertEqual(web_after(ONE_ALONE, ("bring", "ann", "hay", 1))[1], (("ann", "hay", ONE),) + ONE_ALONE[1])
