"""Things that are neither names nor numbers nor tuples, for tests of things of any kind."""

from unittest.mock import ANY


class Contrary:
    """Refuses to be compared, to be counted and to be a key."""

    __hash__ = None

    def __eq__(self, other):
        raise RuntimeError("not to be compared")

    def __len__(self):
        raise RuntimeError("not to be counted")

    def __bool__(self):
        raise RuntimeError("no truth")


def nested(depth):
    thing = ()
    for _ in range(depth):
        thing = (thing,)
    return thing


# ANY calls itself like everything.
ODD_THINGS = (
    None, True, False, "", "Ann", "ann ", "1", "1/2", b"ann", b"", [], ["ann"], {}, {"ann": 1}, {1: 2},
    set(), {"ann"}, frozenset(), range(2), object(), object, len, ANY, Contrary(), nested(10), 10 ** 5000,
)
