"""Things with one part put otherwise."""

from unittest.mock import ANY

from tests.things import Contrary

OTHERS = (None, True, False, 0, 1, "", "ann", "chest", "zoe", (), ((),), (1, 1), (0, 1), [], {}, ANY, Contrary(), b"ann")


def put_otherwise(thing):
    """A thing's likes with one part, however deep, put otherwise."""
    if isinstance(thing, tuple):
        yield list(thing)
        yield thing + (None,)
        yield thing + thing[-1:]
        yield thing[:-1]
        yield thing[1:]
        yield thing[::-1]
        yield tuple(2 * part if type(part) is int else part for part in thing)
        for place, part in enumerate(thing):
            for other in put_otherwise(part):
                yield thing[:place] + (other,) + thing[place + 1:]
    elif type(thing) is int:
        yield from (thing + 1, thing - 1, -thing, str(thing), bool(thing), None, (thing,), (thing, 1))
    elif isinstance(thing, str):
        yield from ("ann", "ben", "cat", "dan", "chest", "zoe", "rye", thing.upper(), thing + " ", thing.encode(), None)
        yield from ("has", "can", "never", "too much", "any thank", "no thank", "thank", "part", "alike")
    else:
        yield from OTHERS
