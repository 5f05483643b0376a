"""The desk (points 2, 3 and 20)."""

import inspect
import random

from tests.refusing import Refusing
from tests.samples import EIGHT, EIGHT_LOTS
from tests.test_house import house_of
from tests.test_walking import BOOK, made_book
from tests.things import ODD_THINGS, Contrary
from thankways import errors
from thankways.comes import has
from thankways.desk import Desk
from thankways.fewest import fewest
from thankways.goings import after
from thankways.parts import merits
from thankways.shares import shares
from thankways.texts import show_book
from thankways.thanks import least_thank
from thankways.walking import fails_at, web_of
from thankways.ways import way
from thankways.webs import held

# The rows of a day at the desk, and the answers.
DAY = (
    ("book", "none"), ("has chest", "0"), ("come ann", "ok"), ("come ben", "ok"), ("bring ann wheat 6", "ok"),
    ("bring ben rye 2", "ok"), ("has ann", "6"), ("has ann rye", "0"), ("has ben rye", "2"), ("give ann ben 3", "ok"),
    ("has ben", "5"), ("has chest wheat", "0"), ("hand ben ann rye 1", "ok"), ("come cat", "ok"), ("give ben cat 1", "ok"),
    ("book", "come ann; come ben; bring ann wheat 6; bring ben rye 2; give ann ben 3; hand ben ann rye 1; come cat; "
     "give ben cat 1"),
    # ben thanks ann for 3, ann thanks ben for 1, cat thanks ben for 1.
    ("has cat wheat", "3/4"), ("has ben wheat", "9/4"), ("has ben", "3"), ("if cat", "ann 4, ben 4"),
    ("if ben", "ann 7, cat 1"),
    ("if ben cat", "ann 8"), ("if ann ben", "cat 1, chest 7"), ("if ann ben cat", "chest 8"),
    ("shares ann", "ann: ben 1"), ("shares ben cat", "ben: ann 1; cat: ann 1"),
    ("shares ann ben", "ann: chest 1; ben: chest 1"),
    ("merits ann ben cat", "ben 7/2, cat 1/2"), ("merits chest ann ben", "ann 7/2, ben 7/2"), ("merits cat ann", "ann 0"),
    ("way rye ben", "ben"), ("way wheat cat", "cat"), ("way rye cat", "cat"),
    ("fewest ann 4", "now"), ("fewest ann 0", "now"), ("fewest ann 9/2", "ben"), ("fewest ann 15/2", "ben cat"),
    ("fewest ann 8", "ben cat"), ("fewest ann 17/2", "never"), ("fewest cat 1", "now"), ("fewest cat 2", "never"),
    ("thank ben ann 5 ben", "so"), ("thank ben cat 2 ben", "3/2"), ("thank ben cat 5/2 ben", "3"),
    ("thank ben cat 4 ben", "never"),
    ("thank ann cat 8 ann ben", "any"), ("thank ann cat 1 ann ben", "so"), ("thank ann cat 9 ann ben", "never"),
    ("paper cat ann ben", "holds"), ("paper chest ann", "holds"), ("paper chest ann ben cat", "holds"),
    ("forget ben ann 3", "ok"), ("forget cat ben 1", "ok"), ("if cat", "ann 4, ben 3, chest 1"),
    ("shares cat", "cat: chest 1"),
    ("thank cat ann 5 cat", "any"), ("at 8 give ann cat 1", "ok"), ("has cat", "2"), ("back", "ok"), ("has cat", "1"),
    ("strike 9", "ok"), ("if cat", "ann 4, ben 4"), ("go ann", "ok"), ("go ben", "ok"), ("if cat", "chest 8"),
    ("back", "ok"), ("back", "ok"), ("back", "ok"), ("at 0 come dan", "ok"), ("if ann dan", "ben 7, cat 1"),
    ("shares ann dan", "ann: ben 1; dan: chest 1"), ("way rye dan", "none"), ("strike 0", "ok"),
)
NO_ROWS = (
    # Another word, or another number of words.
    "", " ", "ann", "Book", "books", "wish ann 3", "unwish 0", "web", "len", "chest", "take ann ben 3", "3", "at",
    "if", "shares",
    "merits", "way", "fewest", "thank", "paper", "has", "strike", "come", "give", "book ann", "back 1", "back ann",
    "strike 1 2", "strike ann", "has ann rye wheat", "has ann 3", "merits ann", "way rye", "way rye ann ben", "fewest ann",
    "fewest ann 3 rye", "thank ben cat 2", "thank ben cat ben", "paper ann", "come ann ben", "come ann 3", "go",
    "go ann ben",
    "bring ann rye", "bring ann 3", "give ann ben", "give ann 3", "hand ann ben 3", "hand ann ben rye", "forget ann 3",
    "give ann ben rye 3", "hand ann ben 3 rye", "at 0", "at come ann", "at 0 0 come ann", "at 0 at 0 come ann", "at 0 book",
    "at 0 strike 0", "at 0 back", "at 0 go", "at 0 has ann", "at ann come ann",
    # What should be a NAME.
    "come Ann", "come abcdefghi", "come chest", "go chest", "come ann1", "come a-n", "come 3", "has Ann",
    "has abcdefghi", "has ann Rye",
    "has ann chest", "has chest chest", "has ann abcdefghi", "if Ann", "if chest", "if ann chest", "if ann 3",
    "shares chest",
    "shares ann Ben", "merits ann chest", "merits Ann ben", "merits 3 ben", "way chest ann", "way Rye ann",
    "way rye Ann", "fewest Ann 3",
    "thank chest ann 3 ben", "thank ben Ann 3 ben", "thank Ben ann 3 ben", "thank ben ann 3 chest", "paper Ann ben",
    "paper ann chest",
    "bring ann chest 3", "give ann chest 3", "give chest ann 3", "hand ann ben chest 3", "hand ann chest rye 3",
    "forget chest ann 3",
    # M, or another whole number.
    "give ann ben 0", "give ann ben 03", "give ann ben 10000", "give ann ben 1234567890", "give ann ben 3/2",
    "give ann ben -3",
    "give ann ben +3", "give ann ben 3.", "give ann ben x", "bring ann rye 0", "bring ann rye 010", "forget ben ann 0",
    "strike 00", "strike 01", "strike -1", "strike 0123456789", "strike 1234567890", "strike 1/2", "strike +1",
    "strike 1_0",
    "strike 0x1", "at 00 come ann", "at 01 come ann", "at -1 come ann", "at 1234567890 come ann", "at 1/2 come ann",
    # A fraction.
    "fewest ann 2/1", "fewest ann 2/4", "fewest ann 0/1", "fewest ann 0/2", "fewest ann 1/0", "fewest ann 01",
    "fewest ann 1/02",
    "fewest ann 01/2", "fewest ann -1", "fewest ann 1/-2", "fewest ann 1/", "fewest ann /2", "fewest ann /",
    "fewest ann 1//2",
    "fewest ann 1/2/3", "fewest ann 1234567890", "fewest ann 1234567891/2", "fewest ann 1/1234567890",
    "fewest ann 00", "fewest ann x",
    "fewest ann 1.5", "thank ben ann 2/4 ben", "thank ben ann 1234567890 ben", "thank ben ann 1/1 ben",
    # A deed that would be none.
    "give ann ann 3", "hand ann ann rye 3", "forget ann ann 3", "at 0 give ann ann 3", "at 0 come chest", "at 9 come Ann",
    # Blanks, line ends and other signs.
    " book", "book ", "come  ann", "come ann ", " come ann", "come ann\n", "\ncome ann", "come\nann", "come\tann",
    "book\n", "back\n",
    "has  ann", "has ann ", "if ann  ben", "if ann ", "if  ann", "come ann\ncome ben", "has ann\n", "strike 0\n",
    "strike 0 ", "at 0  come ann",
    "at  0 come ann", "at 0 come ann ", "fewest ann 3 ", "fewest ann 3\n", "come ann;", "BOOK", "come ann\r",
    "come\u00a0ann", "come \u00e4nn",
    "strike \u0661", "give ann ben \u00b2", "has ann,", "book;",
)


class TestDesk(Refusing):
    def no_row(self, row, desk):
        self.refused(errors.NoRow, {"row": row}, desk.say, row)

    def filled(self, many=len(DAY)):
        desk = Desk()
        for row, _ in DAY[:many]:
            desk.say(row)
        return desk

    def test_a_day(self):
        desk = Desk()
        for row, answer in DAY:
            told = desk.say(row)
            self.assertIs(type(told), str)
            self.assertEqual(told, answer, row)

    def test_rows_that_are_none(self):
        for desk, book in ((Desk(), "none"), (self.filled(16), DAY[15][1])):
            for row in NO_ROWS + ODD_THINGS:
                self.no_row(row, desk)
            for row in (("come", "ann"), ["come", "ann"], b"come ann", {"come ann": 1}, 3, Contrary()):
                self.no_row(row, desk)
            self.assertEqual(desk.say("book"), book)

    def test_rows_just_so_written(self):
        desk = self.filled(16)
        for row, answer in (
            ("has ann", "4"), ("has chest", "0"), ("has chest rye", "0"), ("fewest ann 999999999", "never"),
            ("fewest ann 0", "now"),
            ("fewest ann 1/999999999", "now"), ("fewest ann 999999999/2", "never"), ("fewest ann 0", "now"),
            ("merits chest ann", "ann 0"), ("paper chest ann", "holds"), ("thank ben cat 999999999 ben", "never"),
        ):
            self.assertEqual(desk.say(row), answer, row)
        for row in ("come abcdefgh", "bring abcdefgh zzzzzzzz 9999", "forget ben ann 1", "at 0 come zoe", "come a",
            "go zoe"):
            self.assertEqual(desk.say(row), "ok")
        self.assertEqual(desk.say("give abcdefgh ben 1"), "ok")

    def test_forget_of_the_chest(self):
        desk = Desk()
        for row in ("come ann", "come ben", "come cat", "bring cat rye 2", "give cat ben 1", "give ben ann 1",
            "go cat", "go ben"):
            self.assertEqual(desk.say(row), "ok")
        # ann thanked ben, who thanked cat, who thanked nobody.
        self.assertEqual(desk.say("shares ann"), "ann: chest 1")
        self.assertEqual(desk.say("forget ann chest 1"), "ok")
        self.fails(9, "less", desk.say, "forget ann chest 1")
        self.assertEqual(desk.say("has chest rye"), "1")

    def test_refused_as_the_functions_refuse(self):
        desk = self.filled(16)
        before = desk.say("book")
        web = web_of(desk.house.book())
        for row, refusal, fields in (
            ("has zoe", errors.NoName, {"name": "zoe"}), ("has zoe zzz", errors.NoName, {"name": "zoe"}),
            ("has ann zzz", errors.NoLot, {"name": "zzz"}), ("has chest zzz", errors.NoLot, {"name": "zzz"}),
            ("if zoe", errors.NoNames, {"names": ("zoe",)}), ("if ben ann", errors.NoNames, {"names": ("ben", "ann")}),
            ("if ann ann", errors.NoNames, {"names": ("ann", "ann")}),
            ("shares ben ann", errors.NoNames, {"names": ("ben", "ann")}),
            ("shares zoe", errors.NoNames, {"names": ("zoe",)}),
            ("merits zoe ben ann", errors.NoNames, {"names": ("ben", "ann")}),
            ("merits zoe ann", errors.NoName, {"name": "zoe"}), ("merits ann ann ben", errors.NoName, {"name": "ann"}),
            ("way zzz ann", errors.NoLot, {"name": "zzz"}), ("way zzz zoe", errors.NoLot, {"name": "zzz"}),
            ("way rye zoe", errors.NoName, {"name": "zoe"}), ("way rye chest", errors.NoName, {"name": "chest"}),
            ("fewest zoe 1", errors.NoName, {"name": "zoe"}), ("fewest chest 1", errors.NoName, {"name": "chest"}),
            ("thank ann cat 1 ben", errors.NoName, {"name": "ann"}),
            ("thank ben ann 1 ann ben", errors.NoName, {"name": "ann"}),
            ("thank ben chest 1 ben", errors.NoName, {"name": "chest"}),
            ("thank zoe zoe 1 ben ann", errors.NoNames, {"names": ("ben", "ann")}),
            ("thank ben zoe 1 ben", errors.NoName, {"name": "zoe"}),
            ("paper zoe ben ann", errors.NoNames, {"names": ("ben", "ann")}),
            ("paper ben ann ben", errors.NoName, {"name": "ben"}), ("paper zoe ann", errors.NoName, {"name": "zoe"}),
            ("strike 8", errors.NoPlace, {"number": 8}), ("strike 999999999", errors.NoPlace, {"number": 999999999}),
            ("at 9 come dan", errors.NoPlace, {"number": 9}),
            ("at 999999999 go zoe", errors.NoPlace, {"number": 999999999}),
        ):
            with self.assertRaises(refusal, msg=row) as caught:
                desk.say(row)
            self.assertEqual(vars(caught.exception), fields, row)
        for row, number, word in (
            ("come ann", 8, "there"), ("go zoe", 8, "nobody"), ("bring ann rye 1", 8, "lot"), ("give ann ben 5", 8, "less"),
            ("at 0 go ann", 0, "nobody"), ("at 3 go ann", 5, "nobody"), ("strike 0", 1, "nobody"), ("strike 2", 3, "less"),
            ("hand ann cat zzz 1", 8, "lot"), ("forget ann cat 1", 8, "less"), ("at 0 come ann", 1, "there"),
        ):
            self.fails(number, word, desk.say, row)
        self.assertEqual(desk.say("book"), before)
        self.assertEqual(web_of(desk.house.book()), web)

    def test_back_and_sixty_deeds(self):
        desk = Desk()
        self.refused(errors.NoBack, {}, desk.say, "back")
        for _ in range(30):
            self.assertEqual((desk.say("come ann"), desk.say("go ann")), ("ok", "ok"))
        for row in ("come ann", "at 60 come ann", "at 0 go zoe"):
            with self.assertRaises(errors.TooMany) as caught:
                desk.say(row)
            self.assertEqual(vars(caught.exception), {"many": 61})
        with self.assertRaises(errors.NoPlace):
            desk.say("at 61 come ann")
        # Behind what is refused the last deed is still the one taken back.
        self.no_row("back ", desk)
        self.assertEqual(desk.say("back"), "ok")
        self.assertEqual(desk.say("at 59 go ann"), "ok")
        for _ in range(60):
            self.assertEqual(desk.say("back"), "ok")
        self.refused(errors.NoBack, {}, desk.say, "back")
        self.assertEqual(desk.say("book"), "none")
        self.assertEqual(desk.say("has chest"), "0")

    def test_nobody_and_nothing(self):
        desk = Desk()
        for row, answer in (("come ann", "ok"), ("if ann", "none"), ("shares ann", "ann: chest 1"),
            ("merits chest ann", "ann 0")):
            self.assertEqual(desk.say(row), answer)
        self.assertEqual(desk.say("paper chest ann"), "holds")
        self.assertEqual(desk.say("fewest ann 0"), "now")
        self.assertEqual(desk.say("fewest ann 1/2"), "never")
        with self.assertRaises(errors.NoLot):
            desk.say("way rye ann")

    def test_each_desk_keeps_its_own_house(self):
        one, other = Desk(), Desk()
        one.say("come ann")
        self.assertEqual((one.say("book"), other.say("book")), ("come ann", "none"))

    def test_as_a_house_with_the_same_deeds_by_the_functions(self):
        for number in range(15):
            source, book = random.Random(number), made_book(number + 40, many=36)
            book = book if fails_at(book) is None else book[:-1]
            desk, house = Desk(), house_of(book)
            for deed in book:
                self.assertEqual(desk.say(" ".join(map(str, deed))), "ok")
            self.assertEqual(desk.say("book"), show_book(book).replace("\n", "; ") or "none")
            web = house.web()
            for _ in range(12):
                names = tuple(name for name in web[0] if source.random() < 0.5)
                stays = [name for name in web[0] if name not in names]
                if names and stays:
                    self.answers(desk, web, names, source.choice(stays), source.choice(names), source)

    def answers(self, desk, web, names, to, by, source):
        """What a desk answers is what the functions tell."""
        words = " ".join(names)
        behind = after(web, names)
        holders = sorted({row[0] for row in behind[1]})
        wanted = ", ".join(f"{holder} {text(held(behind, holder))}" for holder in holders) or "none"
        self.assertEqual(desk.say(f"if {words}"), wanted)
        for holder in behind[0] + ("chest",):
            if has(web, names, holder)[0] > 0:
                self.assertIn(f"{holder} {text(has(web, names, holder))}", wanted.split(", "))
            self.assertEqual(desk.say(f"paper {holder} {words}"), "holds")
        rows = [" ".join(f"{one} {text(share)}" for one, share in row) for row in shares(web, names)]
        self.assertEqual(desk.say(f"shares {words}"), "; ".join(f"{name}: {row}" for name, row in zip(names, rows)))
        for one in (to, "chest"):
            told = ", ".join(f"{name} {text(amount)}" for name, amount in merits(web, names, one))
            self.assertEqual(desk.say(f"merits {one} {words}"), told)
        for lot in sorted({row[1] for row in web[1]}):
            found = way(web, lot, to)
            self.assertEqual(desk.say(f"way {lot} {to}"), "none" if found is None else " ".join(found))
            self.assertEqual(desk.say(f"has {to} {lot}"), text(held(web, to, lot=lot)))
        self.assertEqual(desk.say(f"has {to}"), text(held(web, to)))
        amount = (source.randrange(60), 1)
        found = fewest(web, to, amount)
        told = "never" if found is None else " ".join(found[0]) or "now"
        self.assertEqual(desk.say(f"fewest {to} {text(amount)}"), told)
        found = least_thank(web, names, by, to, amount)
        told = text(found[1]) if found[0] == "at" else found[0]
        self.assertEqual(desk.say(f"thank {by} {to} {text(amount)} {words}"), told)

    def test_full_of_people_and_lots(self):
        desk = Desk()
        for name in EIGHT:
            desk.say(f"come {name}")
        for name, lot in zip(EIGHT, EIGHT_LOTS):
            desk.say(f"bring {name} {lot} 7")
        self.fails(16, "full", desk.say, "come zoe")
        self.fails(16, "full", desk.say, "bring ann zzz 1")
        self.assertEqual(desk.say("if " + " ".join(EIGHT)), "chest 56")
        self.assertEqual(desk.say("shares " + " ".join(EIGHT)), "; ".join(f"{name}: chest 1" for name in EIGHT))
        self.assertEqual(desk.say("merits chest " + " ".join(EIGHT)), ", ".join(f"{name} 7" for name in EIGHT))

    def test_interface(self):
        self.assertEqual(Desk.__module__, "thankways.desk")
        self.assertEqual(str(inspect.signature(vars(Desk)["say"])), "(self, row)")
        self.assertEqual(str(inspect.signature(Desk)), "()")
        self.assertEqual(Desk().say(row="book"), "none")
        self.assertEqual(len(set(NO_ROWS)), len(NO_ROWS))
        self.assertEqual(BOOK[0], ("come", "ben"))


def text(number):
    return str(number[0]) if number[1] == 1 else f"{number[0]}/{number[1]}"
