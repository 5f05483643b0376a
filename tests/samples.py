"""Webs for the tests: some written out, some made by fixed numbers."""

import random
from fractions import Fraction

from tests.model import told

ONE = (1, 1)
EIGHT = ("ann", "ben", "cat", "dan", "eva", "fay", "gus", "hal")
EIGHT_LOTS = ("barley", "corn", "hay", "millet", "oats", "rice", "rye", "wheat")
LARGE = 10 ** 59 + 7
HUGE = 10 ** 999 + 9

NOBODY = ((), (), ())
# The chest holds what others left, though nobody is there.
CHEST_ALONE = ((), (("chest", "rye", (5, 2)),), ())
ONE_ALONE = (("ann",), (("ann", "rye", (3, 1)),), ())
# Each thanks one; the last one the chest.
ROW = (
    ("ann", "ben", "cat"),
    (("ann", "rye", (6, 1)), ("ben", "wheat", (1, 2)), ("chest", "hay", (2, 3))),
    (("ann", "ben", (1, 1)), ("ben", "cat", (5, 3)), ("cat", "chest", (2, 1))),
)
# All thank each other in a ring, and nobody else: going together they are stuck.
RING = (
    ("ann", "ben", "cat"),
    (("ann", "rye", (1, 1)), ("ben", "rye", (1, 2)), ("cat", "rye", (1, 3))),
    (("ann", "ben", (1, 1)), ("ben", "cat", (2, 1)), ("cat", "ann", (3, 1))),
)
# ann and ben thank each other; dan thanks ann and eva; eva nobody.
PAIR = (
    ("ann", "ben", "dan", "eva"),
    (("ann", "rye", (4, 1)), ("ben", "wheat", (2, 1)), ("dan", "rye", (6, 1)), ("eva", "oats", (1, 1))),
    (("ann", "ben", (3, 1)), ("ben", "ann", (1, 4)), ("dan", "ann", (1, 1)), ("dan", "eva", (2, 1))),
)
# ann and ben thank each other and others, the chest too; a lot is called as somebody is.
BOTH = (
    ("ann", "ben", "cat", "dan"),
    (("ann", "ann", (12, 1)), ("ann", "rye", (5, 1)), ("ben", "dan", (7, 2)), ("chest", "rye", (1, 7))),
    (
        ("ann", "ben", (1, 2)), ("ann", "cat", (1, 3)), ("ben", "ann", (2, 1)), ("ben", "chest", (1, 1)),
        ("ben", "dan", (1, 1)), ("cat", "ann", (9999, 1)), ("dan", "chest", (1, 9)),
    ),
)
LONG_NAMES = (
    ("abcdefgh", "chests", "zzzzzzzz"),
    (("chest", "zzzzzzzz", (LARGE, LARGE + 1)), ("chests", "abcdefgh", (HUGE, 2)), ("zzzzzzzz", "a", (1, HUGE))),
    (("abcdefgh", "chests", (1, LARGE)), ("chests", "chest", (LARGE, 3)), ("chests", "zzzzzzzz", (LARGE - 1, 5))),
)
WRITTEN = (NOBODY, CHEST_ALONE, ONE_ALONE, ROW, RING, PAIR, BOTH, LONG_NAMES)


def amount(source, figures):
    return told(Fraction(source.randrange(1, 10 ** figures), source.randrange(1, 10 ** figures)))


def made(number, many, lots=2, density=0.5, figures=1):
    """A web by a number: of so many people, of whom about such a part thanks each other one."""
    source = random.Random(number)
    people = EIGHT[:many]
    holders = sorted(people + ("chest",))
    goods = [
        (holder, lot, amount(source, figures))
        for holder in holders for lot in EIGHT_LOTS[:lots] if source.random() < 0.7
    ]
    thanks = [
        (name, to, amount(source, figures))
        for name in people for to in holders if name != to and source.random() < density
    ]
    return (people, tuple(goods), tuple(thanks))


FULL = made(8, 8, lots=8, density=1.0, figures=2)
MADE = tuple(
    made(number, many, density=density)
    for many in (2, 3, 4, 5) for density in (0.2, 0.4, 0.8) for number in range(3)
) + (made(1, 8, density=0.25), made(2, 8, density=0.5), made(3, 3, density=0.7, figures=60))
SMALL = tuple(web for web in WRITTEN + MADE if len(web[0]) <= 4)
ALL = WRITTEN + MADE + (FULL,)
NO_WEBS = (
    (), ((),), ((), ()), ((), (), (), ()), [(), (), ()], ([], (), ()), ((), [], ()), ((), (), []),
    (None, (), ()), ((), None, ()), ((), (), None), ({}, (), ()), ("", (), ()), ((), "", ()), ((), (), ""),
    (EIGHT + ("ida",), (), ()), (("ann", "ann"), (), ()), (("ben", "ann"), (), ()), (("chest",), (), ()),
    (["ann"], (), ()), ("ann", (), ()), (("Ann",), (), ()), (("abcdefghi",), (), ()), (("",), (), ()),
    (("ann", True), (), ()), ((("ann",),), (), ()),
)
