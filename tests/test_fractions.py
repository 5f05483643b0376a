"""Fractions and whole numbers (points 2 and 4)."""

import inspect
import unittest
from enum import IntEnum
from fractions import Fraction

from tests.things import ODD_THINGS
from thankways import fractions
from thankways.errors import NoNumber, ThankError
from thankways.fractions import below, fraction, is_fraction, minus, over, plus, times

SIXTY = 10 ** 59 + 7
MANY = 987654321098765432109876543210987654321098765432109876543210
TOPS = (0, 1, -1, 2, -3, 4, 6, -12, 35, SIXTY, -SIXTY, MANY, -MANY)
BOTTOMS = (1, -1, 2, 3, -4, 6, 9, 10, -35, SIXTY, -SIXTY, MANY, -MANY)
NO_FRACTIONS = ODD_THINGS + (
    0, 1, -1, SIXTY, (), (1,), (1, 2, 1), (1, 2, 3), [1, 2], [0, 1], {1: 2}, "12", b"12", (1, None), (None, 1),
    ("1", "2"), ("1", 2), (1, "2"), (True, 2), (1, True), (False, 1), (True, True), (0, True), ((1,), 2),
    (1, [2]), (1, 0), (0, 0), (-1, 0), (1, -1), (1, -2), (-1, -2), (0, -1), (0, 2), (2, 2), (2, 4), (-2, 4),
    (6, 3), (SIXTY, SIXTY), (2 * SIXTY, 2), ((1, 2), (1, 3)),
)
PAIRED = (plus, minus, times, over, below)


def told(number):
    return (number.numerator, number.denominator)


def samples():
    """Fractions in lowest terms, rising, each once: small ones and such of sixty figures."""
    small = {Fraction(top, bottom) for top in range(-7, 8) for bottom in range(1, 6)}
    large = {Fraction(top, bottom) for top in TOPS for bottom in BOTTOMS}
    return sorted(small | {number for number in large if abs(number.numerator) > 100})


class Kinds(IntEnum):
    TWO = 2
    FOUR = 4


class TestFraction(unittest.TestCase):
    def refused(self, place, call, *args, **named):
        with self.assertRaises(NoNumber) as caught:
            call(*args, **named)
        self.assertEqual(caught.exception.place, place)
        self.assertIs(type(caught.exception.place), int)
        self.assertIsInstance(caught.exception, ThankError)

    def plain(self, thing):
        self.assertIs(type(thing), tuple)
        self.assertEqual([type(part) for part in thing], [int, int])

    def test_whole_numbers_make_a_fraction_in_lowest_terms(self):
        for top in TOPS:
            for bottom in BOTTOMS:
                made = fraction(top, bottom)
                self.assertEqual(made, told(Fraction(top, bottom)))
                self.plain(made)

    def test_written_out(self):
        self.assertEqual(fraction(6, 4), (3, 2))
        self.assertEqual(fraction(-6, 4), (-3, 2))
        self.assertEqual(fraction(6, -4), (-3, 2))
        self.assertEqual(fraction(-6, -4), (3, 2))
        self.assertEqual(fraction(0, -9), (0, 1))
        self.assertEqual(fraction(7, 7), (1, 1))
        self.assertEqual(plus((1, 2), (1, 3)), (5, 6))
        self.assertEqual(minus((1, 2), (1, 3)), (1, 6))
        self.assertEqual(minus((1, 3), (1, 2)), (-1, 6))
        self.assertEqual(times((2, 3), (3, 4)), (1, 2))
        self.assertEqual(over((1, 2), (-1, 3)), (-3, 2))
        self.assertEqual(over((0, 1), (-1, 3)), (0, 1))
        self.assertIs(below((1, 3), (1, 2)), True)
        self.assertIs(below((1, 2), (1, 2)), False)
        self.assertIs(below((-1, 2), (-1, 3)), True)

    def test_a_bottom_left_out_is_1(self):
        for top in TOPS:
            self.assertEqual(fraction(top), (top, 1))

    def test_a_bottom_of_0(self):
        for top in TOPS:
            self.refused(1, fraction, top, 0)
        self.refused(1, fraction, bottom=0, top=3)

    def test_what_is_no_whole_number_makes_no_fraction(self):
        for thing in ODD_THINGS + ((1, 2), (0, 1), [1]):
            if type(thing) is int:
                continue
            self.refused(0, fraction, thing)
            self.refused(0, fraction, thing, 2)
            self.refused(0, fraction, thing, 0)
            self.refused(0, fraction, thing, thing)
            self.refused(0, fraction, bottom=thing, top=thing)
            self.refused(1, fraction, 0, thing)
            self.refused(1, fraction, bottom=thing, top=2)

    def test_an_int_of_a_class_of_its_own_is_a_whole_number(self):
        self.plain(fraction(Kinds.TWO, Kinds.FOUR))
        self.assertEqual(fraction(Kinds.TWO, Kinds.FOUR), (1, 2))
        self.assertIs(is_fraction((Kinds.TWO, 3)), True)

    def test_is_fraction_of_fractions(self):
        for number in samples():
            self.assertIs(is_fraction(told(number)), True)
            self.assertIs(is_fraction(thing=told(number)), True)
        self.assertIs(is_fraction((0, 1)), True)

    def test_is_fraction_of_other_things(self):
        for place, thing in enumerate(NO_FRACTIONS):
            self.assertIs(is_fraction(thing), False, place)

    def test_two_of_each_kind_as_they_must_be(self):
        numbers = samples()
        for one in numbers[::3]:
            for other in numbers:
                pair = (told(one), told(other))
                self.assertEqual(plus(*pair), told(one + other))
                self.assertEqual(minus(*pair), told(one - other))
                self.assertEqual(times(*pair), told(one * other))
                self.assertIs(below(*pair), one < other)
                if other != 0:
                    self.assertEqual(over(*pair), told(one / other))

    def test_what_is_told_is_a_plain_fraction_and_may_be_handed_in(self):
        for reckon in (plus, minus, times, over):
            made = reckon((3, 10), (-9, 20))
            self.plain(made)
            self.assertIs(is_fraction(made), True)
            self.plain(reckon(made, made))

    def test_dividing_by_0(self):
        for one in ((0, 1), (1, 1), (-5, 3)):
            self.refused(1, over, one, (0, 1))
        self.refused(1, over, other=(0, 1), one=(1, 2))

    def test_what_is_no_fraction_is_refused_by_its_place(self):
        for reckon in PAIRED:
            for thing in NO_FRACTIONS:
                self.refused(0, reckon, thing, (1, 2))
                self.refused(1, reckon, (1, 2), thing)
                self.refused(0, reckon, thing, (0, 1))
                self.refused(0, reckon, thing, thing)
                self.refused(0, reckon, other=thing, one=thing)
                self.refused(1, reckon, other=thing, one=(1, 2))

    def test_by_place_and_by_names(self):
        self.assertEqual(fraction(top=2, bottom=4), (1, 2))
        self.assertEqual(fraction(bottom=4, top=2), (1, 2))
        self.assertEqual(fraction(2, bottom=4), (1, 2))
        self.assertEqual(fraction(top=2), (2, 1))
        for reckon in PAIRED:
            wanted = reckon((1, 2), (3, 4))
            self.assertEqual(reckon(one=(1, 2), other=(3, 4)), wanted)
            self.assertEqual(reckon(other=(3, 4), one=(1, 2)), wanted)
            self.assertEqual(reckon((1, 2), other=(3, 4)), wanted)

    def test_arguments_are_called_as_the_interface_says(self):
        self.assertEqual(str(inspect.signature(fraction)), "(top, bottom=1)")
        self.assertEqual(str(inspect.signature(is_fraction)), "(thing)")
        for reckon in PAIRED:
            self.assertEqual(str(inspect.signature(reckon)), "(one, other)")

    def test_each_function_is_defined_in_its_file(self):
        for name in ("is_fraction", "fraction", "plus", "minus", "times", "over", "below"):
            self.assertEqual(getattr(fractions, name).__module__, "thankways.fractions")

    def test_what_is_handed_in_stays_as_it_was(self):
        listed = [1, 2]
        inner = (1, listed)
        self.assertIs(is_fraction(inner), False)
        self.refused(0, plus, listed, (1, 2))
        self.refused(1, plus, (1, 2), inner)
        self.assertEqual(listed, [1, 2])
