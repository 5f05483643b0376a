"""Books and webs as texts, a line for each deed or row."""

from thankways.deeds import MOST_DEEDS, check_book, is_deed
from thankways.errors import NoText
from thankways.fractions import is_fraction
from thankways.webs import check_web, good_fits, person_fits, thank_fits

# Python refuses to write out or to read numbers of some thousand figures at once.
FIGURES_AT_ONCE = 60
LIMIT_AT_ONCE = 10 ** 60


def show_whole(number):
    """A whole number from 0 on in figures."""
    pieces = []
    while number >= LIMIT_AT_ONCE:
        number, piece = divmod(number, LIMIT_AT_ONCE)
        pieces.append(str(piece).zfill(FIGURES_AT_ONCE))
    pieces.append(str(number))
    return "".join(pieces[::-1])


def is_figures(text):
    """Tell whether a text is a whole number in figures, without noughts ahead."""
    if text == "" or not all(["0" <= sign <= "9" for sign in text]):
        return False
    return text == "0" or text[0] != "0"


def read_whole(text):
    """The whole number that a text is, or None."""
    if not is_figures(text):
        return None
    # The first piece may be short, so that all others are of the same length.
    end = len(text) % FIGURES_AT_ONCE
    number = int("0" + text[:end])
    for start in range(end, len(text), FIGURES_AT_ONCE):
        number = number * LIMIT_AT_ONCE + int(text[start:start + FIGURES_AT_ONCE])
    return number


def show_fraction(number):
    """A fraction from 0 on as a text."""
    if number[1] == 1:
        return show_whole(number[0])
    return f"{show_whole(number[0])}/{show_whole(number[1])}"


def read_fraction(text):
    """The fraction that a text is, or None."""
    top, bar, bottom = text.partition("/")
    if bar == "":
        bottom = "1"
    elif bottom == "1":
        return None
    number = (read_whole(top), read_whole(bottom))
    return number if is_fraction(number) else None


def show_deed(deed):
    """A deed as a line."""
    return " ".join([part if isinstance(part, str) else show_whole(part) for part in deed])


def show_book(book):
    """A book as a text."""
    check_book(book)
    return "\n".join([show_deed(deed) for deed in book])


def lines_of(text):
    """The lines of a text, none of the text without signs; other things are refused."""
    if not isinstance(text, str):
        raise NoText(None)
    if text == "":
        return []
    return text.split("\n")


def read_part(word):
    """A word of a deed: the number that it is, or the word itself."""
    number = read_whole(word)
    return word if number is None else number


def read_deed(line):
    """The deed that a line is, or None."""
    deed = tuple([read_part(word) for word in line.split(" ")])
    return deed if is_deed(deed) else None


def read_book(text):
    """The book that a text is; that it stands is not asked."""
    book = []
    for number, line in enumerate(lines_of(text)):
        deed = read_deed(line)
        if deed is None or number >= MOST_DEEDS:
            raise NoText(number)
        book.append(deed)
    return tuple(book)


def show_row(word, row):
    """A row of a web's goods or thanks as a line that begins with a word."""
    return " ".join([word, row[0], row[1], show_fraction(row[2])])


def show_web(web):
    """A web as a text."""
    check_web(web)
    people, goods, thanks = web
    lines = ["person " + name for name in people]
    lines.extend([show_row("has", row) for row in goods])
    lines.extend([show_row("thanks", row) for row in thanks])
    return "\n".join(lines)


def read_web(text):
    """The web that a text is."""
    people, goods, thanks = [], [], []
    for number, line in enumerate(lines_of(text)):
        words = line.split(" ")
        if not read_line(words, people, goods, thanks):
            raise NoText(number)
    return (tuple(people), tuple(goods), tuple(thanks))


def read_line(words, people, goods, thanks):
    """Put a line's words behind the rows ahead, and tell whether they fit there."""
    if words[0] == "person" and len(words) == 2:
        fits = len(goods) == 0 and len(thanks) == 0 and person_fits(people, words[1])
        rows, row = people, words[1]
    elif words[0] in ("has", "thanks") and len(words) == 4:
        row = (words[1], words[2], read_fraction(words[3]))
        if words[0] == "has":
            fits = len(thanks) == 0 and good_fits(people, goods, row)
            rows = goods
        else:
            fits = thank_fits(people, thanks, row)
            rows = thanks
    else:
        return False
    if fits:
        rows.append(row)
    return fits
