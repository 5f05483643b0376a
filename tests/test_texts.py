"""Books and webs as texts (points 2 and 7)."""

import inspect

from tests import model
from tests.refusing import Refusing
from tests.samples import ALL, BOTH, FULL, HUGE, LONG_NAMES, NO_WEBS, NOBODY, ROW
from tests.things import ODD_THINGS
from thankways.goings import after
from thankways.texts import read_book, read_web, show_book, show_web

BOOK = (
    ("come", "ann"), ("bring", "ann", "wheat", 3), ("give", "ann", "ben", 9999), ("hand", "ann", "ben", "wheat", 10),
    ("forget", "ann", "ben", 1), ("forget", "ann", "chest", 120), ("go", "abcdefgh"),
)
BOOK_TEXT = (
    "come ann\nbring ann wheat 3\ngive ann ben 9999\nhand ann ben wheat 10\n"
    "forget ann ben 1\nforget ann chest 120\ngo abcdefgh"
)
BOTH_TEXT = (
    "person ann\nperson ben\nperson cat\nperson dan\n"
    "has ann ann 12\nhas ann rye 5\nhas ben dan 7/2\nhas chest rye 1/7\n"
    "thanks ann ben 1/2\nthanks ann cat 1/3\nthanks ben ann 2\nthanks ben chest 1\nthanks ben dan 1\n"
    "thanks cat ann 9999\nthanks dan chest 1/9"
)
NUMBERS = ("1", "9", "10", "9999")
NO_NUMBERS = (
    "0", "10000", "01", "0010", "+1", "-1", "1.0", "1/1", "1/2", "2/1", "1e3", "1_0", "x", "", "0x1", "9" * 5000,
    "one", "ann", "\xb2", "\u0661", "\uff11", "1,",
)
NO_FRACTIONS = (
    "0", "0/1", "0/2", "1/1", "7/1", "2/4", "6/3", "2/2", "-1", "+1", "-1/2", "1/-2", "+1/2", "01", "1/02", "01/2", "00",
    "1/0", "0/0", "/2", "1/", "/", "1/2/3", "1//2", "1.5", "1 /2", "", "x", "1/x", "\xbd", "1\\2", "1_0", "1/1_0", "\u0661",
)


def lines_with(text, place, line):
    lines = text.split("\n")
    return "\n".join(lines[:place] + [line] + lines[place + 1:])


def lines_more(text, place, line):
    lines = text.split("\n")
    return "\n".join(lines[:place] + [line] + lines[place:])


def lines_less(text, place):
    lines = text.split("\n")
    return "\n".join(lines[:place] + lines[place + 1:])


def ways_to_spoil(line):
    """The line with signs more, fewer or others."""
    yield from (" " + line, line + " ", line + "  ", line.replace(" ", "  ", 1), line.replace(" ", "\t", 1), line + "\r")
    yield from (line.upper(), line.capitalize(), line.swapcase(), line.replace(" ", "", 1), line + ";", line + " 3")
    yield from (line + " ann", line.rsplit(" ", 1)[0], line.split(" ", 1)[1], "#" + line, line + ".", '"' + line + '"')
    yield from ("", " ", line.split(" ")[0], "at 0 " + line, line.replace(" ", "_"), line.replace(" ", ","))


class TestShowBook(Refusing):
    def test_written_out(self):
        self.assertEqual(show_book(BOOK), BOOK_TEXT)
        self.assertEqual(show_book(book=BOOK), BOOK_TEXT)
        self.assertEqual(show_book((("give", "ann", "ben", 3),)), "give ann ben 3")
        self.assertEqual(show_book(()), "")

    def test_refusals(self):
        for thing in ODD_THINGS + (list(BOOK), dict.fromkeys(BOOK), set(BOOK), BOOK_TEXT, 3):
            self.no_book(0 if isinstance(thing, tuple) else None, show_book, thing)
        for many in (61, 62, 600):
            self.no_book(None, show_book, (("come", "ann"),) * many)
            self.no_book(None, show_book, (None,) * many)
        self.no_book(0, show_book, BOOK[0])
        for thing in ODD_THINGS + (("come", "chest"), ("give", "ann", "ann", 1), ["come", "ann"], ("go", "ann", 1)):
            for place in range(len(BOOK)):
                self.no_book(place, show_book, BOOK[:place] + (thing,) + BOOK[place:])
                self.no_book(place, show_book, BOOK[:place] + (thing, thing) + BOOK[place:])
        self.no_book(59, show_book, (("come", "ann"),) * 59 + (None,))


class TestReadBook(Refusing):
    def test_read_back(self):
        self.assertEqual(read_book(BOOK_TEXT), BOOK)
        self.assertEqual(read_book(text=BOOK_TEXT), BOOK)
        self.assertEqual(read_book(""), ())
        for deed in BOOK:
            self.assertEqual(read_book(show_book((deed,))), (deed,))
        for many in range(61):
            book = (BOOK * 9)[:many]
            self.assertEqual(read_book(show_book(book)), book)

    def test_kinds(self):
        book = read_book(BOOK_TEXT)
        self.assertIs(type(book), tuple)
        for deed, wanted in zip(book, BOOK):
            self.assertIs(type(deed), tuple)
            self.assertEqual([type(part) for part in deed], [type(part) for part in wanted])

    def test_that_it_stands_is_not_asked(self):
        self.assertEqual(read_book("go ann\ngo ann"), (("go", "ann"), ("go", "ann")))
        self.assertEqual(read_book("come go\ncome give"), (("come", "go"), ("come", "give")))

    def test_more_than_sixty(self):
        for many in (61, 62, 100):
            self.no_text(60, read_book, "\n".join(["come ann"] * many))
        self.no_text(60, read_book, "\n".join(["come ann"] * 60 + ["come"]))
        self.no_text(60, read_book, "\n".join(["come ann"] * 60) + "\n")
        self.no_text(59, read_book, "\n".join(["come ann"] * 59 + ["come", "go ann"]))

    def test_lines_that_are_spoilt(self):
        lines = BOOK_TEXT.split("\n")
        for place, line in enumerate(lines):
            for wrong in ways_to_spoil(line):
                self.no_text(place, read_book, lines_with(BOOK_TEXT, place, wrong))
                self.no_text(place, read_book, lines_more(BOOK_TEXT, place, wrong))
                self.no_text(place, read_book, "\n".join([*lines[:place], wrong, wrong, *lines[place:]]))
        self.no_text(0, read_book, lines_with(lines_with(BOOK_TEXT, 4, ""), 0, ""))

    def test_measures(self):
        for number in NUMBERS:
            self.assertEqual(read_book("come ann\ngive ann ben " + number)[1], ("give", "ann", "ben", int(number)))
        for number in NO_NUMBERS:
            for words in ("give ann ben ", "bring ann rye ", "hand ann ben rye ", "forget ann chest "):
                self.no_text(1, read_book, "come ann\n" + words + number)

    def test_names_and_words(self):
        for line in (
            "come abcdefghi", "come chest", "come Ann", "come 1", "come", "come ann ben", "go", "go ann 1", "give ann ann 1",
            "give ann chest 1", "give chest ann 1", "hand ann ben chest 1", "bring ann chest 1", "forget chest ann 1",
            "take ann ben 1", "person ann", "give 1 2 3", "Come ann", "comes ann", "give ann ben", "give ann ben 1 1",
            "bring ann rye", "bring ann 3 rye", "hand ann ben 3 rye", "hand ann ben 3", "come ann;go ann", "give 3 ann ben",
        ):
            self.no_text(0, read_book, line)
            self.no_text(1, read_book, "come ann\n" + line)

    def test_line_ends(self):
        self.no_text(0, read_book, "\n")
        self.no_text(0, read_book, "\ncome ann")
        self.no_text(1, read_book, "come ann\n")
        self.no_text(1, read_book, "come ann\n\n")
        self.no_text(1, read_book, "come ann\n\ngo ann")
        self.no_text(0, read_book, " ")
        self.no_text(0, read_book, "come ann go ann")

    def test_what_is_no_text(self):
        for thing in ODD_THINGS + (BOOK, list(BOOK), b"come ann", ("come ann",), 0):
            if not isinstance(thing, str):
                self.no_text(None, read_book, thing)
                self.no_text(None, read_book, text=thing)


class TestShowWeb(Refusing):
    def test_written_out(self):
        self.assertEqual(show_web(BOTH), BOTH_TEXT)
        self.assertEqual(show_web(web=BOTH), BOTH_TEXT)
        self.assertEqual(show_web(NOBODY), "")
        self.assertEqual(show_web(((), (("chest", "rye", (3, 1)),), ())), "has chest rye 3")
        self.assertEqual(show_web((("ann",), (), ())), "person ann")

    def test_refusals(self):
        for thing in NO_WEBS + ODD_THINGS + (BOTH_TEXT, list(BOTH)):
            self.no_web(thing, show_web, thing)

    def test_amounts_of_many_figures(self):
        self.assertIn("\nhas chests abcdefgh 1" + "0" * 998 + "9/2\n", show_web(LONG_NAMES))
        self.assertIn("\nhas zzzzzzzz a 1/1" + "0" * 998 + "9\n", show_web(LONG_NAMES))
        for power in (1, 58, 59, 60, 61, 119, 120, 121, 180, 999, 1000, 1001, 1500):
            for number in (10 ** power, 10 ** power - 1, 10 ** power + 7, 3 * 10 ** power):
                web = (("ann",), (("ann", "rye", (number, 1)),), ())
                self.assertEqual(show_web(web), "person ann\nhas ann rye " + str(number))
                self.assertEqual(read_web(show_web(web)), web)


class TestReadWeb(Refusing):
    def test_read_back(self):
        self.assertEqual(read_web(BOTH_TEXT), BOTH)
        self.assertEqual(read_web(text=BOTH_TEXT), BOTH)
        self.assertEqual(read_web(""), NOBODY)
        for web in ALL:
            self.assertEqual(read_web(show_web(web)), web)

    def test_kinds(self):
        web = read_web(BOTH_TEXT)
        self.assertTrue(model.is_web(web))
        for row in web[1] + web[2]:
            self.assertEqual([type(part) for part in row[2]], [int, int])

    def test_told_webs_of_very_many_figures(self):
        told = after(LONG_NAMES, ("chests", "zzzzzzzz"))
        self.assertEqual(read_web(show_web(told)), told)
        web = (("ann",), (("ann", "rye", (HUGE ** 6, HUGE ** 5 + 1)),), ())
        self.assertEqual(read_web(show_web(web)), web)

    def test_lines_that_are_spoilt(self):
        for place, line in enumerate(BOTH_TEXT.split("\n")):
            for wrong in ways_to_spoil(line):
                self.no_text(place, read_web, lines_with(BOTH_TEXT, place, wrong))
                self.no_text(place, read_web, lines_more(BOTH_TEXT, place, wrong))

    def test_a_line_twice_left_out_or_moved(self):
        lines = BOTH_TEXT.split("\n")
        for place, line in enumerate(lines):
            self.no_text(place + 1, read_web, lines_more(BOTH_TEXT, place, line))
            for later in range(place + 1, len(lines)):
                # What is moved behind a line stands there wrongly, or those ahead miss it already.
                less = lines_less(BOTH_TEXT, place)
                moved = lines_more(less, later, line)
                row = self.first_wrong(moved)
                self.assertIsNotNone(row)
                self.no_text(row, read_web, moved)
        self.no_text(3, read_web, lines_less(BOTH_TEXT, 0))
        self.no_text(5, read_web, lines_less(BOTH_TEXT, 1))
        self.no_text(8, read_web, lines_less(BOTH_TEXT, 2))
        self.no_text(11, read_web, lines_less(BOTH_TEXT, 3))
        for place in range(4, len(lines)):
            self.assertEqual(show_web(read_web(lines_less(BOTH_TEXT, place))), lines_less(BOTH_TEXT, place))

    def first_wrong(self, text):
        """The first line that is less than the one ahead, or speaks of somebody who isn't there."""
        people, ahead = [], (0, ())
        for row, line in enumerate(text.split("\n")):
            word, *names = line.split(" ")
            key = (("person", "has", "thanks").index(word), tuple(names[:2]))
            if word == "person":
                people.append(names[0])
            elif names[0] not in people + ["chest"] or (word == "thanks" and names[1] not in people + ["chest"]):
                return row
            if key <= ahead:
                return row
            ahead = key
        return None

    def test_fractions(self):
        for number, amount in (("1", (1, 1)), ("1/2", (1, 2)), ("10/3", (10, 3)), ("9" * 60, (10 ** 60 - 1, 1))):
            self.assertEqual(read_web("person ann\nhas ann rye " + number)[1], (("ann", "rye", amount),))
            self.assertEqual(read_web("person ann\nthanks ann chest " + number)[2], (("ann", "chest", amount),))
        for number in NO_FRACTIONS:
            self.no_text(1, read_web, "person ann\nhas ann rye " + number)
            self.no_text(1, read_web, "person ann\nthanks ann chest " + number)

    def test_names_and_words(self):
        for line in (
            "person abcdefghi", "person chest", "person Ann", "person ann", "person aaa", "person", "person cat dan",
            "has zoe rye 1", "has ann chest 1", "has ann rye", "has ann rye 1 1", "has ann 1", "has ann Rye 1", "has chest 1",
            "thanks ann ann 1", "thanks chest ann 1", "thanks zoe ann 1", "thanks ann zoe 1", "thanks ann ben",
            "thanks ann ben 1 1", "hold ann rye 1", "Has ann rye 1", "come cat", "has", "thanks", "1", "has ann abcdefghi 1",
            "thank ann ben 1", "ann", "has ann rye ben", "thanks ann 1 ben", "has 1 ann rye",
        ):
            self.no_text(2, read_web, "person ann\nperson ben\n" + line)
            self.no_text(2, read_web, "person ann\nperson ben\n" + line + "\n")

    def test_how_many_people_and_lots(self):
        self.assertEqual(read_web(show_web(FULL)), FULL)
        self.no_text(8, read_web, lines_more(show_web(FULL), 8, "person ida"))
        people = "person ann\nperson ben\n"
        goods = "\n".join("has ann " + lot + " 1" for lot in "abcdefgh")
        self.assertEqual(len(read_web(people + goods)[1]), 8)
        self.assertEqual(len(read_web(people + goods + "\nhas ben a 1")[1]), 9)
        self.no_text(10, read_web, people + goods + "\nhas ann i 1")
        self.no_text(10, read_web, people + goods + "\nhas ben i 1\nhas chest a 1")
        self.no_text(11, read_web, people + goods + "\nhas ben a 1\nhas chest i 1")

    def test_rows_that_do_not_rise(self):
        for one, other in (
            ("has ann rye 1", "has ann rye 2"), ("has ann rye 2", "has ann oats 1"), ("has ben oats 1", "has ann rye 2"),
            ("thanks ann chest 1", "thanks ann chest 2"), ("thanks ann chest 1", "thanks ann ben 2"),
            ("thanks ben ann 1", "thanks ann ben 2"), ("thanks ann ben 1", "has ann rye 1"), ("has ann rye 1", "person cat"),
            ("thanks ann ben 1", "person cat"),
        ):
            self.no_text(3, read_web, "person ann\nperson ben\n" + one + "\n" + other)

    def test_line_ends(self):
        self.no_text(0, read_web, "\n")
        self.no_text(0, read_web, "\nperson ann")
        self.no_text(1, read_web, "person ann\n")
        self.no_text(1, read_web, "person ann\n\nperson ben")
        self.no_text(15, read_web, BOTH_TEXT + "\n")
        self.no_text(0, read_web, " ")

    def test_what_is_no_text(self):
        for thing in ODD_THINGS + (ROW, list(ROW), b"person ann", ("person ann",), 0):
            if not isinstance(thing, str):
                self.no_text(None, read_web, thing)
                self.no_text(None, read_web, text=thing)

    def test_interface(self):
        for function, wanted in (
            (show_book, "(book)"), (read_book, "(text)"), (show_web, "(web)"), (read_web, "(text)"),
        ):
            self.assertEqual(str(inspect.signature(function)), wanted)
            self.assertEqual(function.__module__, "thankways.texts")
