"""Promises [2] and [3]: books, and everybody's order; [1] where it holds of them."""

import copy
import unittest

from pairlattice.asking import asks, best_for
from pairlattice.chosen import fairest, gentlest, sorts, with_pair
from pairlattice.errors import (
    BadBook, BadPairing, BadText, NotClosed, NotGood, NoTurning, PairError,
)
from pairlattice.lattice import Lattice
from pairlattice.mending import mended
from pairlattice.pairings import better, breakers, is_good
from pairlattice.texts import written
from pairlattice.turnings import turned, turnings
from pairlattice.wishes import order
from tests.books import BAD_BOOKS, BLOCKS, ONE, ROW, UNLIKE, made_books, slow_order

OTHER_FIVE = (BadPairing, NotGood, NoTurning, NotClosed, BadText)

# Each asks for something that would itself be refused, were the book one.
ASKED = {
    "order of the ones": lambda book: order(book, 0, 0),
    "order of the others": lambda book: order(book, 1, 0),
    "order of somebody that there isn't": lambda book: order(book, 0, 99),
    "breakers": lambda book: breakers(book, (-1,)),
    "breakers of no pairing": lambda book: breakers(book, None),
    "is_good": lambda book: is_good(book, (-1,)),
    "is_good of no pairing": lambda book: is_good(book, [0]),
    "better": lambda book: better(book, 0, (-1,), (-1,)),
    "better of no pairings": lambda book: better(book, 1, [0], "x"),
    "asks of the ones": lambda book: asks(book, 0),
    "asks of the others": lambda book: asks(book, 1),
    "best_for the ones": lambda book: best_for(book, 0),
    "best_for the others": lambda book: best_for(book, 1),
    "turnings": lambda book: turnings(book, (-1,)),
    "turnings at no pairing": lambda book: turnings(book, None),
    "turned": lambda book: turned(book, (-1,), ()),
    "turned, no pairing and no turning": lambda book: turned(book, [0], None),
    "Lattice": lambda book: Lattice(book),
    "sorts": lambda book: sorts(book),
    "with_pair": lambda book: with_pair(book, 0, 0),
    "with_pair of nobody": lambda book: with_pair(book, -1, 99),
    "fairest": lambda book: fairest(book),
    "gentlest": lambda book: gentlest(book),
    "mended": lambda book: mended(book, (-1,), 0, 0, ()),
    "mended for one of the others": lambda book: mended(book, (-1,), 1, 0, ()),
    "mended, no pairing and no row": lambda book: mended(book, [0], 1, 0, None),
    "mended for nobody": lambda book: mended(book, (-1,), 0, 99, ()),
    "written": lambda book: written(book),
}


class Orders(unittest.TestCase):
    def test_groups_ahead_then_lower_numbers(self):
        book = ((((2,), (0, 3), (1,)),), (ROW, ROW, ROW, ROW))
        self.assertEqual(order(book, 0, 0), [2, 0, 3, 1])

    def test_of_the_others(self):
        row = ((4,), (1, 2), (0, 3))
        book = ((ROW,) * 5, (row,))
        self.assertEqual(order(book, 1, 0), [4, 1, 2, 0, 3])

    def test_one_group_of_all(self):
        book = (((tuple(range(8)),),), (ROW,) * 8)
        self.assertEqual(order(book, 0, 0), list(range(8)))

    def test_only_who_stands_in_the_others_row_too(self):
        self.assertEqual([order(UNLIKE, 0, i) for i in range(3)], [[1, 0], [0, 1], []])
        self.assertEqual([order(UNLIKE, 1, j) for j in range(2)], [[0, 1], [1, 0]])

    def test_left_out_within_a_group(self):
        book = ((((0, 1, 2),),), (ROW, (), ROW))
        self.assertEqual(order(book, 0, 0), [0, 2])
        self.assertEqual([order(book, 1, j) for j in range(3)], [[0], [], [0]])

    def test_left_out_by_the_ones(self):
        book = ((((1,),), ((0,),)), (((0, 1),), ((0, 1),)))
        self.assertEqual([order(book, 1, j) for j in range(2)], [[1], [0]])

    def test_of_a_number_of_nobody_nothing_is_told(self):
        for side in (0, 1):
            for number in (-1, -4, 4, 8, 99):
                self.assertEqual(order(BLOCKS, side, number), [])

    def test_smallest(self):
        self.assertEqual(order((ONE, ONE), 0, 0), [0])
        self.assertEqual(order((ONE, ONE), 1, 0), [0])

    def test_rows_without_wishes(self):
        book = (((),), ((),))
        self.assertEqual(order(book, 0, 0), [])
        self.assertEqual(order(book, 1, 0), [])

    def test_eight_a_side(self):
        up = tuple((k,) for k in range(8))
        down = tuple((k,) for k in reversed(range(8)))
        book = ((up, down) * 4, (down, ((0, 1, 2, 3), (4, 5, 6, 7))) * 4)
        self.assertEqual(order(book, 0, 6), list(range(8)))
        self.assertEqual(order(book, 0, 7), list(range(7, -1, -1)))
        self.assertEqual(order(book, 1, 0), list(range(7, -1, -1)))
        self.assertEqual(order(book, 1, 7), list(range(8)))

    def test_books_of_all_sizes(self):
        for book in made_books(8):
            for side in (0, 1):
                for number in range(len(book[side])):
                    with self.subTest(book=book, side=side, number=number):
                        told = order(book, side, number)
                        self.assertIs(type(told), list)
                        self.assertEqual(told, slow_order(book, side, number))

    def test_a_new_list_each_time(self):
        first = order(BLOCKS, 0, 0)
        again = order(BLOCKS, 0, 0)
        self.assertIsNot(first, again)
        first.append(7)
        again.clear()
        self.assertEqual(order(BLOCKS, 0, 0), [0, 1])

    def test_the_book_stays_as_it_was(self):
        for book in (BLOCKS, UNLIKE):
            before = copy.deepcopy(book)
            order(book, 0, 1).clear()
            order(book, 1, 1).reverse()
            self.assertEqual(book, before)


class BadBooks(unittest.TestCase):
    def test_each_is_refused_ahead_of_all_else(self):
        for name, book in BAD_BOOKS.items():
            for asked, ask in ASKED.items():
                with self.subTest(name, asked=asked):
                    with self.assertRaises(BadBook) as caught:
                        ask(book)
                    self.assertIsInstance(caught.exception, PairError)
                    self.assertIsInstance(caught.exception, ValueError)
                    self.assertNotIsInstance(caught.exception, OTHER_FIVE)

    def test_what_was_refused_stays_as_it_was(self):
        for name, book in BAD_BOOKS.items():
            before = copy.deepcopy(book)
            with self.subTest(name):
                self.assertRaises(BadBook, order, book, 0, 0)
                self.assertEqual(book, before)

    def test_the_limits_themselves_are_kept(self):
        for ones, others in ((1, 1), (1, 8), (8, 1), (8, 8)):
            book = (((tuple(range(others)),),) * ones, ((tuple(range(ones)),),) * others)
            with self.subTest(ones=ones, others=others):
                self.assertEqual(order(book, 0, ones - 1), list(range(others)))
                self.assertEqual(order(book, 1, others - 1), list(range(ones)))

    def test_the_greatest_numbers_are_kept(self):
        book = ((((7,), (0,)),) * 8, (((0, 7),),) * 8)
        self.assertEqual(order(book, 0, 7), [7, 0])
        self.assertEqual(order(book, 1, 7), [0, 7])


if __name__ == "__main__":
    unittest.main()
