"""The refusals: bases, fields, and nothing beside (point 2, and the interface)."""

import unittest

from tests.things import ODD_THINGS
from thankways import errors

BASES = {"ThankError": ValueError, "LostError": LookupError, "StandError": ArithmeticError}
REFUSALS = {
    "ThankError": {
        "NoNumber": ("place",), "NoDeed": ("deed",), "NoBook": ("number",), "NoWeb": ("thing",),
        "NoNames": ("names",), "NoAmount": ("amount",), "NoMany": ("many",), "NoText": ("row",),
        "NoRow": ("row",),
    },
    "LostError": {"NoName": ("name",), "NoLot": ("name",), "NoPlace": ("number",), "NoBack": ()},
    "StandError": {"Fails": ("number", "word"), "NoMates": (), "TooMany": ("many",)},
}


def each_refusal():
    for base, refusals in REFUSALS.items():
        for name, fields in refusals.items():
            yield getattr(errors, base), getattr(errors, name), fields


class TestErrors(unittest.TestCase):
    def test_each_base_stands_right_under_its_class_of_python(self):
        for name, above in BASES.items():
            base = getattr(errors, name)
            self.assertEqual(base.__bases__, (above,), name)
            self.assertEqual(base.__module__, "thankways.errors")
            self.assertIsInstance(base(), above)

    def test_each_refusal_stands_right_under_its_base_alone(self):
        for base, refusal, _ in each_refusal():
            self.assertEqual(refusal.__bases__, (base,), refusal)
            self.assertEqual(refusal.__module__, "thankways.errors")

    def test_no_refusal_is_caught_as_another_or_by_another_base(self):
        classes = [refusal for _, refusal, _ in each_refusal()]
        for base, refusal, fields in each_refusal():
            told = refusal(*fields)
            self.assertEqual([c for c in classes if isinstance(told, c)], [refusal])
            for name, above in BASES.items():
                self.assertEqual(isinstance(told, getattr(errors, name)), getattr(errors, name) is base)
                self.assertEqual(isinstance(told, above), above is BASES[base.__name__])

    def test_no_refusal_is_one_of_pythons_narrower_errors(self):
        for _, refusal, fields in each_refusal():
            told = refusal(*fields)
            for narrow in (KeyError, IndexError, ZeroDivisionError, OverflowError, UnicodeError):
                self.assertNotIsInstance(told, narrow)

    def test_there_is_no_error_that_the_interface_does_not_list(self):
        listed = set(BASES) | {name for refusals in REFUSALS.values() for name in refusals}
        there = {name for name, thing in vars(errors).items() if isinstance(thing, type)}
        self.assertEqual(there, listed)

    def test_fields_are_set_on_creation_and_are_what_was_handed_in(self):
        for _, refusal, fields in each_refusal():
            for thing in ODD_THINGS:
                told = refusal(*[thing] * len(fields))
                self.assertEqual(sorted(vars(told)), sorted(fields), refusal)
                for field in fields:
                    self.assertIs(getattr(told, field), thing)

    def test_fields_by_their_names_and_each_in_its_turn(self):
        for _, refusal, fields in each_refusal():
            wanted = {field: [field] for field in fields}
            self.assertEqual(vars(refusal(**wanted)), wanted)
            self.assertEqual(vars(refusal(*wanted.values())), wanted)

    def test_fields_are_wanted(self):
        for _, refusal, fields in each_refusal():
            if fields:
                with self.assertRaises(TypeError):
                    refusal()

    def test_a_refusal_can_be_shown_whatever_it_holds(self):
        for _, refusal, fields in each_refusal():
            for thing in ODD_THINGS:
                self.assertIsInstance(str(refusal(*[thing] * len(fields))), str)
