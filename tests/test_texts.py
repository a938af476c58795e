"""Promise [14]: written and read; [1], [2] where they hold of them."""

import copy
import re
import unittest

from pairlattice.errors import BadBook, BadText
from pairlattice.texts import read, written
from tests.books import BAD_BOOKS, BLOCKS, ONE, UNLIKE, made_books
from tests.refusing import Refusing
from tests.walks import doubled, small_books

SMALL = "one 0: 0 1\nother 0: 0\nother 1: 0"

# Each is no text of a book, by one thing alone.
BAD_TEXTS = {
    "no rows at all": "",
    "a line end alone": "\n",
    "a blank alone": " ",
    "an empty row ahead": "\none 0: 0\nother 0: 0",
    "an empty row between": "one 0: 0\n\nother 0: 0",
    "a line end behind the last row": "one 0: 0\nother 0: 0\n",
    "a line end behind a last row without groups": "one 0:\nother 0:\n",
    "two line ends behind the last row": "one 0: 0\nother 0: 0\n\n",
    "a blank for a row": "one 0: 0\n \nother 0: 0",
    "another first word": "two 0: 0\nother 0: 0",
    "a first word that is longer": "ones 0: 0\nother 0: 0",
    "a first word that is shorter": "one 0: 0\nothe 0: 0",
    "a first word in capitals": "One 0: 0\nother 0: 0",
    "all in capitals": "ONE 0: 0\nOTHER 0: 0",
    "both first words": "one other 0: 0\nother 0: 0",
    "a first word twice": "one one 0: 0\nother 0: 0",
    "no first word": "0: 0\nother 0: 0",
    "a blank for the first word": " 0: 0\nother 0: 0",
    "the first word alone": "one\nother 0: 0",
    "the first word and a blank": "one \nother 0: 0",
    "the first word and a colon": "one:\nother 0: 0",
    "no number ahead": "one : 0\nother 0: 0",
    "two numbers ahead": "one 0 0: 0\nother 0: 0",
    "no blank ahead of the number": "one0: 0\nother 0: 0",
    "no colon": "one 0 0\nother 0: 0",
    "no colon and no groups": "one 0\nother 0: 0",
    "two colons": "one 0:: 0\nother 0: 0",
    "another sign than a colon": "one 0; 0\nother 0: 0",
    "a colon behind": "one 0: 0:\nother 0: 0",
    "a blank ahead of the colon": "one 0 : 0\nother 0: 0",
    "no blank behind the colon": "one 0:0\nother 0: 0",
    "two rows in one": "one 0: 0 other 0: 0",
    "a row behind the groups": "one 0: 0 1:\nother 0: 0",
    "begins at 1": "one 1: 0\nother 0: 0",
    "the others begin at 1": "one 0: 0\nother 1: 0",
    "a number ahead twice": "one 0: 0\none 0: 0\nother 0: 0",
    "a number ahead left out": "one 0: 0\none 2: 0\nother 0: 0",
    "a number ahead left out of the others": "one 0: 0\nother 0: 0\nother 2: 0",
    "numbers ahead that fall": "one 1: 0\none 0: 0\nother 0: 0",
    "the others go on from the ones": "one 0: 0\none 1: 0\nother 2: 0",
    "a ninth row": "\n".join(f"one {k}: 0" for k in range(9)) + "\nother 0: 0",
    "a tenth row": "\n".join(f"one {k}: 0" for k in range(10)) + "\nother 0: 0",
    "a ninth row of the others": "one 0: 0\n" + "\n".join(f"other {k}: 0" for k in range(9)),
    "a nought ahead of the number ahead": "one 00: 0\nother 0: 0",
    "a nought ahead of a later number ahead": "one 0: 0\none 01: 0\nother 0: 0",
    "a plus ahead of the number ahead": "one +0: 0\nother 0: 0",
    "a minus ahead of the number ahead": "one -0: 0\nother 0: 0",
    "a nought ahead of a number": "one 0: 00\nother 0: 0",
    "a nought ahead of a number in a group": "one 0: 0=01\nother 0: 0\nother 1: 0",
    "a plus ahead of a number": "one 0: +0\nother 0: 0",
    "a minus ahead of a number": "one 0: -1\nother 0: 0",
    "a low line in a number": "one 0: 0_0\nother 0: 0",
    "a part of a number": "one 0: 0.0\nother 0: 0",
    "two figures that go up": "one 0: 01\nother 0: 0\nother 1: 0",
    "all the figures": "one 0: 01234567\nother 0: 0",
    "a blank ahead of a row": " one 0: 0\nother 0: 0",
    "a blank behind a row": "one 0: 0 \nother 0: 0",
    "a blank behind the last row": "one 0: 0\nother 0: 0 ",
    "a blank behind a row without groups": "one 0: \nother 0: 0",
    "a blank more behind the first word": "one  0: 0\nother 0: 0",
    "a blank more behind the colon": "one 0:  0\nother 0: 0",
    "a blank more between groups": "one 0: 0  1\nother 0: 0\nother 1: 0",
    "a tab for a blank": "one 0:\t0\nother 0: 0",
    "a tab behind the first word": "one\t0: 0\nother 0: 0",
    "a blank that is none of the plain ones": "one 0:\u00a00\nother 0: 0",
    "a group of a sign alone": "one 0: =\nother 0: 0",
    "a group that begins with a sign": "one 0: =0\nother 0: 0",
    "a group that ends with a sign": "one 0: 0=\nother 0: 0",
    "two signs in a group": "one 0: 0==1\nother 0: 0\nother 1: 0",
    "a blank ahead of a sign": "one 0: 0 =1\nother 0: 0\nother 1: 0",
    "a blank behind a sign": "one 0: 0= 1\nother 0: 0\nother 1: 0",
    "blanks around a sign": "one 0: 0 = 1\nother 0: 0\nother 1: 0",
    "another sign between": "one 0: 0,1\nother 0: 0\nother 1: 0",
    "a group that is a word": "one 0: a\nother 0: 0",
    "a group that is True": "one 0: True\nother 0: 0",
    "8": "one 0: 8\nother 0: 0",
    "9": "one 0: 9\nother 0: 0",
    "8 in a group": "one 0: 0=8\nother 0: 0",
    "9 behind a number": "one 0: 0 9\nother 0: 0",
    "10": "one 0: 10\nother 0: 0",
    "one behind the others": "one 0: 0\nother 0: 0\none 1: 0",
    "the others first": "other 0: 0\none 0: 0",
    "one between the others": "one 0: 0\nother 0: 0\none 1: 0\nother 1: 0",
    "a line end of two signs": "one 0: 0\r\nother 0: 0",
    "a line end of another kind": "one 0: 0\rother 0: 0",
    "a line end of another kind behind a row without groups": "one 0:\rother 0:",
    "a feed for a line end": "one 0: 0\fother 0: 0",
    "another script's line end": "one 0: 0\u2028other 0: 0",
    "a nought sign ahead": "\x00one 0: 0\nother 0: 0",
    "a mark ahead": "\ufeffone 0: 0\nother 0: 0",
}

# Figures of other scripts, raised ones and wide ones: Python takes some of them for numbers.
OTHER_FIGURES = "\u0660\u0663\u06f1\u0967\u07c0\u0e51\uff10\uff13\u00b2\u00b9\u2070\u2082\u2460\u2160\u4e00\U0001d7d8"

# Rows as they should be, that write no book.
NO_BOOKS = {
    "a number twice in a group": "one 0: 0=0\nother 0: 0",
    "a number twice in a row": "one 0: 0 0\nother 0: 0",
    "a number twice, not side by side": "one 0: 0 1 0\nother 0: 0\nother 1: 0",
    "a number twice in a row of the others": "one 0: 0\nother 0: 0 0",
    "beyond the other side": "one 0: 1\nother 0: 0",
    "far beyond the other side": "one 0: 7\nother 0: 0",
    "beyond the ones": "one 0: 0\nother 0: 0 1",
    "a number that only its own side has": "one 0: 1\none 1: 0\nother 0: 0",
    "a group that falls": "one 0: 1=0\nother 0: 0\nother 1: 0",
    "a group that falls at its end": "one 0: 0=2=1\nother 0: 0\nother 1: 0\nother 2: 0",
    "a group of the others that falls": "one 0: 0\none 1: 0\nother 0: 1=0",
    "the ones alone": "one 0:",
    "two of the ones alone": "one 0:\none 1:",
    "the ones alone, with wishes": "one 0: 0",
    "the others alone": "other 0:",
    "the others alone, with wishes": "other 0: 0\nother 1: 0",
}


def slow_read(text):
    """What a text writes, by the form of a row: BadText, or the rows of both sides."""
    rows = [re.fullmatch("(one|other) ([0-7]):((?: [0-7](?:=[0-7])*)*)", line) for line in text.split("\n")]
    if None in rows:
        return BadText
    heads = [(row[1], int(row[2])) for row in rows]
    count = sum(word == "one" for word, _ in heads)
    if heads != [("one", k) for k in range(count)] + [("other", k) for k in range(len(heads) - count)]:
        return BadText
    told = [tuple(tuple(map(int, group.split("="))) for group in row[3].split()) for row in rows]
    return tuple(told[:count]), tuple(told[count:])


def is_book(ones, others):
    """If some rows of groups of numbers, none below nought, are a book."""
    def fits(row, count):
        numbers = [k for group in row for k in group]
        fair = all(list(group) == sorted(group) for group in row)
        return fair and len(set(numbers)) == len(numbers) and max(numbers, default=0) < count

    sides = all(fits(row, len(others)) for row in ones) and all(fits(row, len(ones)) for row in others)
    return len(ones) > 0 and len(others) > 0 and sides


def spoilt(text):
    """A text with one sign left out, put in, or put for another one, each in turn."""
    for at in range(len(text) + 1):
        yield text[:at] + text[at + 1:]
        for sign in "0127 8=:-\n\teoa":
            yield text[:at] + sign + text[at:]
            yield text[:at] + sign + text[at + 1:]


class Written(unittest.TestCase):
    def test_row_by_row(self):
        self.assertEqual(written(UNLIKE).split("\n"), [
            "one 0: 1 0",
            "one 1: 0=1",
            "one 2: 0 1",
            "other 0: 0=1",
            "other 1: 1 0",
        ])
        self.assertEqual(written(BLOCKS).split("\n"), [
            "one 0: 0 1", "one 1: 1 0", "one 2: 2 3", "one 3: 3 2",
            "other 0: 1 0", "other 1: 0 1", "other 2: 3 2", "other 3: 2 3",
        ])

    def test_the_row_that_the_document_shows(self):
        book = ((((0,), (1, 3)),) * 3, ((),) * 4)
        self.assertEqual(written(book).split("\n")[2], "one 2: 0 1=3")

    def test_no_line_end_behind_and_no_blank_at_an_end(self):
        self.assertEqual(written((ONE, ONE)), "one 0: 0\nother 0: 0")
        self.assertEqual(written((((),), ((),))), "one 0:\nother 0:")
        self.assertEqual(written((((), ROW_OF_ALL), ((),) * 8)).split("\n")[:2], ["one 0:", "one 1: 0=1=2=3=4=5=6=7"])

    def test_eight_a_side(self):
        told = written(doubled(3)).split("\n")
        self.assertEqual(told[7], "one 7: 7 6 5 4 3 2 1 0")
        self.assertEqual([line[:8] for line in told[8:]], [f"other {k}:" for k in range(8)])
        self.assertEqual(len(told), 16)

    def test_of_all_sizes(self):
        for book in [*made_books(8), *small_books()]:
            with self.subTest(book=book):
                rows = []
                for word, side in (("one", book[0]), ("other", book[1])):
                    for number, row in enumerate(side):
                        groups = [" " + "=".join(map(str, group)) for group in row]
                        rows.append(word + " " + str(number) + ":" + "".join(groups))
                self.assertEqual(written(book), "\n".join(rows))
                self.assertIs(type(written(book)), str)


ROW_OF_ALL = (tuple(range(8)),)


class Read(Refusing):
    def test_what_some_texts_write(self):
        self.assertEqual(read("one 0: 0\nother 0: 0"), (ONE, ONE))
        self.assertEqual(read("one 0:\nother 0:"), (((),), ((),)))
        self.assertEqual(read("one 0:\none 1: 0\nother 0: 0 1"), (((), ((0,),)), (((0,), (1,)),)))
        self.assertEqual(read("one 0: 1 0=2\nother 0:\nother 1:\nother 2: 0"), ((((1,), (0, 2)),), ((), (), ((0,),))))

    def test_what_is_written_is_read_to_the_same_book(self):
        for book in [*made_books(8), *small_books(), doubled(3), ((ROW_OF_ALL,) * 8, ((),) * 8)]:
            with self.subTest(book=book):
                told = read(written(book))
                self.assertEqual(told, book)
                self.assert_tuples(told)
                self.assertEqual(written(told), written(book))

    def assert_tuples(self, book):
        """A book, its sides, rows and groups are tuples, and the numbers whole."""
        parts = [book]
        for _ in range(4):
            self.assertTrue(all(type(part) is tuple for part in parts))
            parts = [part for whole in parts for part in whole]
        self.assertTrue(all(type(part) is int for part in parts))

    def test_no_such_rows(self):
        for name, text in BAD_TEXTS.items():
            with self.subTest(name):
                self.refused(BadText, read, text)

    def test_figures_of_other_scripts(self):
        for figure in OTHER_FIGURES:
            for text in ("one @: 0\nother 0: 0", "one 0: @\nother 0: 0", "one 0: 0=@\nother 0: 0", "one 0: 0@\nother 0: 0"):
                with self.subTest(figure=ascii(figure), text=text):
                    self.refused(BadText, read, text.replace("@", figure))

    def test_rows_that_write_no_book(self):
        for name, text in NO_BOOKS.items():
            with self.subTest(name):
                self.refused(BadBook, read, text)

    def test_bad_text_ahead_of_bad_book(self):
        for name, text in NO_BOOKS.items():
            for row in ("one 0: 0", "other 7: 0", "other 0: 0:", "", "other 1: 8"):
                with self.subTest(name, row=row):
                    self.refused(BadText, read, text + "\n" + row)
        self.refused(BadText, read, "one 0: 5\none 1: 0 0\nother 0: 8")
        self.refused(BadText, read, "one 0: 1=0\nother 0: 0\nother 1: 0\n")

    def test_one_sign_another(self):
        seen = {BadText: 0, BadBook: 0, tuple: 0}
        for text in (SMALL, "one 0:\none 1: 0=1\nother 0: 1\nother 1: 1 0", written(UNLIKE)):
            for other in spoilt(text):
                with self.subTest(text=other):
                    told = slow_read(other)
                    kind = BadText if told is BadText else tuple if is_book(*told) else BadBook
                    seen[kind] += 1
                    if kind is tuple:
                        self.assertEqual(read(other), told)
                    else:
                        self.refused(kind, read, other)
        self.assertGreater(min(seen.values()), 20)

    def test_rows_left_out_or_twice(self):
        rows = written(BLOCKS).split("\n")
        for at in range(8):
            # Without the last of a side the numbers ahead are as they should be.
            kind = BadBook if at in (3, 7) else BadText
            with self.subTest(at=at):
                self.refused(kind, read, "\n".join(rows[:at] + rows[at + 1:]))
                self.refused(BadText, read, "\n".join(rows[:at] + [rows[at]] + rows[at:]))
                self.refused(BadText, read, "\n".join(rows[at:] + rows[:at] if at else rows[::-1]))


class Given(Refusing):
    def test_bad_books(self):
        for name, book in BAD_BOOKS.items():
            before = copy.deepcopy(book)
            with self.subTest(name):
                self.refused(BadBook, written, book)
                self.assertEqual(book, before)

    def test_the_book_stays_as_it_was(self):
        book = copy.deepcopy(UNLIKE)
        written(book)
        self.assertEqual(book, UNLIKE)


if __name__ == "__main__":
    unittest.main()
