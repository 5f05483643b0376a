"""What the tests of refusals share."""

import unittest

from thankways import errors

BASES = (errors.ThankError, errors.LostError, errors.StandError)


def picture(thing):
    """What a thing holds, by which it can be seen later that it stayed as it was."""
    if isinstance(thing, (tuple, list)):
        return (id(thing), [picture(part) for part in thing])
    if isinstance(thing, dict):
        return (id(thing), [(picture(key), picture(worth)) for key, worth in thing.items()])
    return (id(thing), [])


class Refusing(unittest.TestCase):
    def refused(self, refusal, fields, call, /, *args, **named):
        """The call is refused by just this refusal, with these very fields; what it was handed stays."""
        before = picture(args)
        with self.assertRaises(BASES) as caught:
            call(*args, **named)
        self.assertIs(type(caught.exception), refusal)
        self.assertEqual(sorted(vars(caught.exception)), sorted(fields))
        for field, wanted in fields.items():
            self.assertIs(getattr(caught.exception, field), wanted, field)
        self.assertEqual(picture(args), before)

    def no_web(self, thing, call, /, *args, **named):
        self.refused(errors.NoWeb, {"thing": thing}, call, *args, **named)

    def no_names(self, names, call, /, *args, **named):
        self.refused(errors.NoNames, {"names": names}, call, *args, **named)

    def no_name(self, name, call, /, *args, **named):
        self.refused(errors.NoName, {"name": name}, call, *args, **named)

    def no_lot(self, name, call, /, *args, **named):
        self.refused(errors.NoLot, {"name": name}, call, *args, **named)

    def no_amount(self, amount, call, /, *args, **named):
        self.refused(errors.NoAmount, {"amount": amount}, call, *args, **named)

    def no_many(self, many, call, /, *args, **named):
        self.refused(errors.NoMany, {"many": many}, call, *args, **named)

    def no_deed(self, deed, call, /, *args, **named):
        self.refused(errors.NoDeed, {"deed": deed}, call, *args, **named)

    def no_book(self, number, call, /, *args, **named):
        self.refused(errors.NoBook, {"number": number}, call, *args, **named)

    def no_text(self, row, call, /, *args, **named):
        self.refused(errors.NoText, {"row": row}, call, *args, **named)

    def fails(self, number, word, call, /, *args, **named):
        with self.assertRaises(errors.Fails) as caught:
            call(*args, **named)
        self.assertEqual((caught.exception.number, caught.exception.word), (number, word))
        self.assertIsInstance(caught.exception, errors.StandError)
