"""Promise [6]: asks and best_for, for either side; [1], [2] where they hold of them."""

import copy
import unittest

from pairlattice.asking import asks, best_for
from pairlattice.pairings import is_good
from tests.books import BLOCKS, ONE, UNLIKE, blocks, cyclic, held_by, made_books, wish
from tests.walks import (
    AHEAD_IS_ALONE, SCARCE, behind_asks, doubled, opposed_book, slow_asks, small_books, with_good_ones,
)


def rank(row, number):
    """How far behind somebody stands in a row, who is alone last of all."""
    return (len(row), 0) if number == -1 else wish(row, number)


class Asks(unittest.TestCase):
    def test_each_takes_the_first_that_asks(self):
        self.assertEqual(asks(BLOCKS, 0), [(0, 0, -1), (1, 1, -1), (2, 2, -1), (3, 3, -1)])
        self.assertEqual(asks(BLOCKS, 1), [(0, 1, -1), (1, 0, -1), (2, 3, -1), (3, 2, -1)])

    def test_more_ones_than_others(self):
        # 0 loses whom it had and asks on at once, ahead of 2; 1 is refused in the end.
        told = [(0, 0, -1), (1, 0, 0), (0, 1, -1), (2, 0, 1), (1, 1, 1)]
        self.assertEqual(asks(SCARCE, 0), told)
        self.assertEqual(asks(SCARCE, 1), [(0, 2, -1), (1, 0, -1)])

    def test_more_others_than_ones(self):
        self.assertEqual(asks(AHEAD_IS_ALONE, 0), [(0, 0, -1), (1, 1, -1)])
        told = [(0, 1, -1), (1, 0, -1), (2, 0, 1), (1, 1, 0), (0, 0, 2)]
        self.assertEqual(asks(AHEAD_IS_ALONE, 1), told)

    def test_only_who_may_be_paired_is_asked(self):
        self.assertEqual(asks(UNLIKE, 0), [(0, 1, -1), (1, 0, -1)])
        self.assertEqual(asks(UNLIKE, 1), [(0, 0, -1), (1, 1, -1)])

    def test_within_a_group_the_lower_number_is_asked_and_kept(self):
        book = ((((0, 1),), ((0, 1),)), (((0, 1),), ((0, 1),)))
        for side in (0, 1):
            self.assertEqual(asks(book, side), [(0, 0, -1), (1, 0, 1), (1, 1, -1)])

    def test_asked_by_a_lower_number_later(self):
        book = ((((0,),), ((0,),)), (((1,), (0,)),))
        self.assertEqual(asks(book, 0), [(0, 0, -1), (1, 0, 0)])
        self.assertEqual(asks(book, 1), [(0, 1, -1)])

    def test_smallest(self):
        for side in (0, 1):
            self.assertEqual(asks((ONE, ONE), side), [(0, 0, -1)])
            self.assertEqual(asks((((),), ((),)), side), [])

    def test_wishes_that_are_not_returned(self):
        for side in (0, 1):
            self.assertEqual(asks(((ONE[0], ONE[0]), ((),)), side), [])
            self.assertEqual(asks((((),), (ONE[0], ONE[0])), side), [])

    def test_books_of_all_sizes(self):
        made = [opposed_book(seed, 8, 5 + seed % 4, seed % 3 * 0.1) for seed in range(24)]
        for book in [*small_books(), *made_books(8), *made, doubled(3), cyclic(8), blocks(4)]:
            for side in (0, 1):
                with self.subTest(book=book, side=side):
                    told = asks(book, side)
                    self.assertIs(type(told), list)
                    self.assertTrue(all(type(ask) is tuple for ask in told))
                    self.assertEqual(told, slow_asks(book, side))

    def test_a_new_list_each_time(self):
        for side in (0, 1):
            before = copy.deepcopy(asks(SCARCE, side))
            changed = asks(SCARCE, side)
            changed.reverse()
            changed.append(None)
            self.assertEqual(asks(SCARCE, side), before)


class BestFor(unittest.TestCase):
    def test_for_either_side(self):
        self.assertEqual(best_for(BLOCKS, 0), (0, 1, 2, 3))
        self.assertEqual(best_for(BLOCKS, 1), (1, 0, 3, 2))
        self.assertEqual(best_for(cyclic(3), 0), (0, 1, 2))
        self.assertEqual(best_for(cyclic(3), 1), (2, 0, 1))

    def test_unlike_sizes(self):
        self.assertEqual(best_for(SCARCE, 0), (1, -1, 0))
        self.assertEqual(best_for(SCARCE, 1), (1, -1, 0))
        self.assertEqual(best_for(AHEAD_IS_ALONE, 1), (0, 1))
        self.assertEqual(best_for(UNLIKE, 0), (1, 0, -1))
        self.assertEqual(best_for(UNLIKE, 1), (0, 1, -1))

    def test_nobody_paired(self):
        for side in (0, 1):
            self.assertEqual(best_for((((),) * 3, ((),)), side), (-1, -1, -1))
            self.assertEqual(best_for((((),), ((),) * 3), side), (-1,))

    def test_it_is_behind_all_asks(self):
        for book in [*made_books(8), doubled(3)]:
            for side in (0, 1):
                with self.subTest(book=book, side=side):
                    told = best_for(book, side)
                    self.assertIs(type(told), tuple)
                    self.assertTrue(is_good(book, told))
                    self.assertEqual(told, behind_asks(book, side, asks(book, side)))

    def test_best_of_all_good_ones_for_a_side_and_worst_for_the_other(self):
        for book, good in with_good_ones():
            for side in (0, 1):
                best = best_for(book, side)
                self.assertIn(best, good)
                for pairing in good:
                    with self.subTest(book=book, side=side, pairing=pairing):
                        self.assert_none_worse(book, side, best, pairing)
                        self.assert_none_worse(book, 1 - side, pairing, best)

    def assert_none_worse(self, book, side, pairing, other):
        for number, row in enumerate(book[side]):
            one, two = held_by(side, number, pairing), held_by(side, number, other)
            self.assertLessEqual(rank(row, one), rank(row, two))

    def test_who_is_alone_in_it_is_alone_in_all_good_ones(self):
        seen = 0
        for book, good in with_good_ones():
            for side in (0, 1):
                for across in (0, 1):
                    alone = self.alone(book, across, best_for(book, side))
                    seen += len(good) > 1 and len(alone) > 0
                    for pairing in good:
                        with self.subTest(book=book, side=side, pairing=pairing):
                            self.assertEqual(self.alone(book, across, pairing), alone)
        self.assertGreater(seen, 10)

    def alone(self, book, side, pairing):
        return [k for k in range(len(book[side])) if held_by(side, k, pairing) == -1]

    def test_what_is_handed_in_stays_as_it_was(self):
        for book in (SCARCE, UNLIKE, BLOCKS):
            before = copy.deepcopy(book)
            for side in (0, 1):
                asks(book, side).clear()
                best_for(book, side)
            self.assertEqual(book, before)


if __name__ == "__main__":
    unittest.main()
