"""Books written as texts, and read again."""

from pairlattice.errors import BadText
from pairlattice.wishes import check_book

ONE = "one"
OTHER = "other"
FIGURES = "01234567"


def written(book):
    """Tell the text of a book."""
    check_book(book)
    ones, others = book
    return "\n".join(side_written(ONE, ones) + side_written(OTHER, others))


def side_written(word, rows):
    """Tell the lines of a side, each of which begins with a word."""
    return [row_written(word, number, row) for number, row in enumerate(rows)]


def row_written(word, number, row):
    """Tell the line of one row."""
    groups = ["=".join([str(wished) for wished in group]) for group in row]
    return " ".join([f"{word} {number}:", *groups])


def read(text):
    """Tell the book that a text writes."""
    ones, others = [], []
    for line in text.split("\n"):
        word, number, row = row_read(line)
        if word == ONE and others:
            raise BadText("a row of the ones stands behind one of the others")
        rows = ones if word == ONE else others
        if number != len(rows):
            raise BadText("the numbers ahead go up by one from 0")
        rows.append(row)
    book = (tuple(ones), tuple(others))
    check_book(book)
    return book


def row_read(line):
    """Tell the word ahead in a line, the number behind it, and the row."""
    words = line.split(" ")
    if len(words) < 2 or words[0] not in (ONE, OTHER) or not words[1].endswith(":"):
        raise BadText("a row begins with its side, its number and a colon")
    number = number_read(words[1][:-1])
    return words[0], number, tuple([group_read(word) for word in words[2:]])


def group_read(word):
    """Tell the group that a word writes."""
    return tuple([number_read(figure) for figure in word.split("=")])


def number_read(figure):
    """Tell the number that a figure writes."""
    # To Python an empty word, or one of several figures that go up, is in FIGURES too.
    if len(figure) != 1 or figure not in FIGURES:
        raise BadText("a number is one figure from 0 to 7")
    return int(figure)
