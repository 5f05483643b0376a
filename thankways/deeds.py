"""Names, deeds and books: what they are, not whether the deeds can be done."""

from thankways.errors import NoBook, NoPlace
from thankways.fractions import is_whole

CHEST = "chest"
MOST_LETTERS = 8
MOST_MEASURES = 9999
MOST_DEEDS = 60


def is_name(thing):
    """Tell whether a thing of any kind is a name: a to z, not the chest's."""
    if not isinstance(thing, str) or thing == CHEST:
        return False
    if not 1 <= len(thing) <= MOST_LETTERS:
        return False
    return all(["a" <= sign <= "z" for sign in thing])


def is_holder(thing):
    """Tell whether a thing of any kind is a name or the chest's."""
    return is_name(thing) or (isinstance(thing, str) and thing == CHEST)


def is_measure(thing):
    """Tell whether a thing of any kind is a number of measures."""
    return is_whole(thing) and 1 <= thing <= MOST_MEASURES


def is_deed(thing):
    """Tell whether a thing of any kind is a deed."""
    if not isinstance(thing, tuple) or len(thing) == 0:
        return False
    # Only texts are compared with words: another thing may call itself like any word.
    if not isinstance(thing[0], str):
        return False
    return is_short_deed(thing) or is_deed_between_two(thing)


def is_short_deed(row):
    """Tell whether a row that begins with a text is a deed of one person."""
    word = row[0]
    if word in ("come", "go"):
        return len(row) == 2 and is_name(row[1])
    if word == "bring":
        return len(row) == 4 and is_name(row[1]) and is_name(row[2]) and is_measure(row[3])
    return False


def is_deed_between_two(row):
    """Tell whether a row that begins with a text is a deed from one to another."""
    # The measures stand last in all of these; what stands ahead of them differs.
    if len(row) not in (4, 5) or not is_measure(row[-1]):
        return False
    if not is_name(row[1]) or not is_holder(row[2]) or row[1] == row[2]:
        return False
    if row[0] == "forget":
        return len(row) == 4
    if row[0] == "give":
        return len(row) == 4 and row[2] != CHEST
    if row[0] == "hand":
        return len(row) == 5 and row[2] != CHEST and is_name(row[3])
    return False


def is_book(thing):
    """Tell whether a thing of any kind is a book; that it stands is not asked."""
    if not isinstance(thing, tuple) or len(thing) > MOST_DEEDS:
        return False
    return all([is_deed(deed) for deed in thing])


def check_place(number, many):
    """Refuse what is no number of one of so many, from 0."""
    if not is_whole(number) or not 0 <= number < many:
        raise NoPlace(number)


def check_book(book):
    """Refuse what is no book."""
    if not isinstance(book, tuple) or len(book) > MOST_DEEDS:
        raise NoBook(None)
    for number, deed in enumerate(book):
        if not is_deed(deed):
            raise NoBook(number)
