"""Names, deeds and books (points 2 and 5)."""

import copy
import inspect
import unittest
from collections import namedtuple
from unittest.mock import ANY

from tests.things import ODD_THINGS
from thankways import deeds
from thankways.deeds import CHEST, is_book, is_deed, is_name

NAMES = ("a", "z", "ann", "chests", "ches", "chesty", "come", "go", "none", "abcdefgh", "zzzzzzzz", "qwertyui")
NO_NAMES = ODD_THINGS + (
    "chest", "abcdefghi", "abcdefgha" * 1000, "aB", "A", "ANN", "Chest", "a1", "1", "a_b", "a-b", "a b", " a",
    "a ", "a\n", "\n", "a\t", "`", "{", "aa`", "aa{", "@", "[", "\xe9", "\xe4nn", "\xaa", "\u0430", "\uff41", "\xdf",
    "\ud800", "a\0", 0, 1, 9999, ("a",), ("a", "b"), ["a"],
)
MEASURES = (1, 2, 10, 9998, 9999)
NO_MEASURES = (0, -1, 10000, 10 ** 60, -9999, "1", "3", b"3", (3,), [3], (3, 1), ANY, True, False, None, {}, "")
DEEDS = (
    ("come", "ann"), ("bring", "ann", "wheat", 3), ("give", "ann", "ben", 3), ("hand", "ann", "ben", "wheat", 3),
    ("forget", "ann", "ben", 3), ("go", "ann"),
)
# For each word: the places of people, of a lot and of measures.
PLACES = {
    "come": ((1,), None, None), "bring": ((1,), 2, 3), "give": ((1, 2), None, 3), "hand": ((1, 2), 3, 4),
    "forget": ((1, 2), None, 3), "go": ((1,), None, None),
}


def with_part(deed, place, part):
    return deed[:place] + (part,) + deed[place + 1:]


class TestNames(unittest.TestCase):
    def test_the_chest(self):
        self.assertEqual(CHEST, "chest")
        self.assertIs(is_name(CHEST), False)

    def test_names(self):
        for name in NAMES:
            self.assertIs(is_name(name), True, name)
            self.assertIs(is_name(thing=name), True)
        for letter in "abcdefghijklmnopqrstuvwxyz":
            for many in range(1, 9):
                self.assertIs(is_name(letter * many), True)
            self.assertIs(is_name(letter * 9), False)

    def test_every_sign_that_is_no_small_letter(self):
        for code in range(0x3000):
            sign = chr(code)
            small = 97 <= code <= 122
            self.assertIs(is_name(sign), small, code)
            self.assertIs(is_name("ab" + sign), small, code)

    def test_other_things(self):
        for place, thing in enumerate(NO_NAMES):
            self.assertIs(is_name(thing), False, place)


class TestDeeds(unittest.TestCase):
    def test_a_deed_of_each_word(self):
        for deed in DEEDS:
            self.assertIs(is_deed(deed), True, deed)
            self.assertIs(is_deed(thing=deed), True)

    def test_names_and_those_that_are_none_at_each_place(self):
        for deed in DEEDS:
            people, lot, _ = PLACES[deed[0]]
            for place in people + ((lot,) if lot else ()):
                for name in NAMES:
                    one = with_part(deed, place, name)
                    unlike = len(people) == 1 or one[1] != one[2]
                    self.assertIs(is_deed(one), unlike, one)
                for number, thing in enumerate(NO_NAMES):
                    if (deed[0], place) == ("forget", 2) and isinstance(thing, str) and thing == CHEST:
                        continue
                    self.assertIs(is_deed(with_part(deed, place, thing)), False, (deed, place, number))

    def test_measures_and_those_that_are_none(self):
        for deed in DEEDS:
            place = PLACES[deed[0]][2]
            if place is None:
                continue
            for many in MEASURES:
                self.assertIs(is_deed(with_part(deed, place, many)), True, deed)
            for thing in NO_MEASURES:
                self.assertIs(is_deed(with_part(deed, place, thing)), False, deed)

    def test_who_gives_to_themself(self):
        self.assertIs(is_deed(("give", "ann", "ann", 3)), False)
        self.assertIs(is_deed(("hand", "ann", "ann", "wheat", 3)), False)
        self.assertIs(is_deed(("forget", "ann", "ann", 3)), False)

    def test_a_lot_may_be_called_like_a_person(self):
        self.assertIs(is_deed(("bring", "ann", "ann", 3)), True)
        self.assertIs(is_deed(("hand", "ann", "ben", "ann", 3)), True)
        self.assertIs(is_deed(("hand", "ann", "ben", "ben", 3)), True)

    def test_the_chest_in_deeds(self):
        self.assertIs(is_deed(("forget", "ann", "chest", 3)), True)
        for deed in (
            ("forget", "chest", "ann", 3), ("forget", "chest", "chest", 3), ("come", "chest"), ("go", "chest"),
            ("bring", "chest", "wheat", 3), ("bring", "ann", "chest", 3), ("give", "ann", "chest", 3),
            ("give", "chest", "ann", 3), ("hand", "ann", "chest", "wheat", 3), ("hand", "chest", "ann", "wheat", 3),
            ("hand", "ann", "ben", "chest", 3), ("hand", "chest", "chest", "wheat", 3),
        ):
            self.assertIs(is_deed(deed), False, deed)

    def test_tuples_of_other_lengths(self):
        for deed in DEEDS:
            for many in range(len(deed)):
                self.assertIs(is_deed(deed[:many]), False, deed[:many])
            for more in ("ann", "wheat", 3, None, (), ("ann",)):
                self.assertIs(is_deed(deed + (more,)), False)
                for place in range(len(deed)):
                    self.assertIs(is_deed(deed[:place] + (more,) + deed[place:]), False, (deed, place, more))

    def test_words_of_other_deeds_and_other_words(self):
        lengths = {"come": 2, "bring": 4, "give": 4, "hand": 5, "forget": 4, "go": 2}
        for deed in DEEDS:
            for word, length in lengths.items():
                self.assertIs(is_deed((word,) + deed[1:]), len(deed) == length, (word, deed))
            for word in ("Come", "GO", "take", "", "bring ", " give", "chest", "at", "comes"):
                self.assertIs(is_deed((word,) + deed[1:]), False)
            for number, thing in enumerate(ODD_THINGS):
                self.assertIs(is_deed((thing,) + deed[1:]), False, number)

    def test_lists_and_other_things_in_the_place_of_the_tuple(self):
        for deed in DEEDS:
            for thing in (list(deed), dict.fromkeys(deed), set(deed), " ".join(map(str, deed)), (deed,), [deed]):
                self.assertIs(is_deed(thing), False)
        for number, thing in enumerate(ODD_THINGS + NO_NAMES + NO_MEASURES):
            self.assertIs(is_deed(thing), False, number)

    def test_a_tuple_of_a_class_of_its_own_is_a_tuple(self):
        come = namedtuple("come", "word who")
        self.assertIs(is_deed(come("come", "ann")), True)


class TestBooks(unittest.TestCase):
    def test_books(self):
        for book in ((), DEEDS, DEEDS[:1], DEEDS + DEEDS):
            self.assertIs(is_book(book), True)
            self.assertIs(is_book(thing=book), True)

    def test_how_many_deeds(self):
        for many in (0, 1, 59, 60):
            self.assertIs(is_book((("come", "ann"),) * many), True, many)
        for many in (61, 62, 600):
            self.assertIs(is_book((("come", "ann"),) * many), False, many)

    def test_that_it_stands_is_not_asked(self):
        self.assertIs(is_book((("go", "ann"), ("give", "ben", "cat", 9999), ("come", "ann"), ("come", "ann"))), True)

    def test_a_single_wrong_deed(self):
        for number, thing in enumerate(ODD_THINGS + (("come", "chest"), ("give", "ann", "ann", 1), list(DEEDS[0]))):
            for place in range(3):
                book = DEEDS[:place] + (thing,) + DEEDS[place:]
                self.assertIs(is_book(book), False, number)
        self.assertIs(is_book((("come", "ann"),) * 59 + (("come", "chest"),)), False)

    def test_other_things(self):
        self.assertIs(is_book(()), True)
        for number, thing in enumerate(ODD_THINGS + NO_NAMES + NO_MEASURES):
            self.assertIs(is_book(thing), False, number)
        for thing in (list(DEEDS), dict.fromkeys(DEEDS), set(DEEDS), (DEEDS,), DEEDS[0], "come ann", (d for d in DEEDS)):
            self.assertIs(is_book(thing), False)


class TestInterface(unittest.TestCase):
    def test_arguments_and_files(self):
        for function in (is_name, is_deed, is_book):
            self.assertEqual(str(inspect.signature(function)), "(thing)")
            self.assertEqual(function.__module__, "thankways.deeds")
        self.assertIs(deeds.CHEST, CHEST)

    def test_what_is_handed_in_stays_as_it_was(self):
        book = [["come", "ann"], ("come", ["ann"])]
        before = copy.deepcopy(book)
        for ask in (is_name, is_deed, is_book):
            for thing in [book, tuple(book)] + book:
                self.assertIs(ask(thing), False)
        self.assertEqual(book, before)
