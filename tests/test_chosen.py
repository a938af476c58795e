"""Promises [11] and [12]: sorts, with_pair, fairest and gentlest; [1], [2] where they hold of them."""

import copy
import itertools
import unittest

from pairlattice.chosen import fairest, gentlest, sorts, with_pair
from pairlattice.errors import BadBook
from pairlattice.pairings import is_good
from tests.books import BAD_BOOKS, BEST, BLOCKS, LEFT, ONE, UNLIKE, blocks, cyclic, held_by, made_books, slow_order
from tests.refusing import Refusing
from tests.walks import AHEAD_IS_ALONE, SCARCE, doubled, good_of_eight, with_good_ones

# Two blocks' worth of pairs in some good pairings, (2, 2) in all, (0, 2) and (2, 0) in none.
MIXED = (
    (((0,), (1,), (2,)), ((1,), (0,)), ((2,), (0,))),
    (((1,), (0,), (2,)), ((0,), (1,)), ((2,), (0,))),
)

NOBODY = [(((),), ((),)), (((),) * 3, ((),)), (((),) * 2, ((),) * 8), ((ONE[0], ONE[0]), ((),))]


def slow_allowed(book):
    """All who may be paired, ascending."""
    return sorted((i, j) for i in range(len(book[0])) for j in slow_order(book, 0, i))


def slow_costs(book, pairing):
    """The cost of a pairing for each of both sides, nothing where somebody is alone."""
    found = []
    for side in (0, 1):
        for number in range(len(book[side])):
            own = held_by(side, number, pairing)
            found.append(0 if own == -1 else slow_order(book, side, number).index(own))
    return found


def known_good():
    """Books with all their good pairings, eight a side ahead of all others."""
    return [(doubled(3), good_of_eight()), *with_good_ones()]


class Sorts(unittest.TestCase):
    def test_of_some_books(self):
        some = [(0, 0), (0, 1), (1, 0), (1, 1)]
        self.assertEqual(sorts(MIXED), ([(2, 2)], some, [(0, 2), (2, 0)]))
        self.assertEqual(sorts(UNLIKE), ([], some, []))
        self.assertEqual(sorts(SCARCE), ([(0, 1), (2, 0)], [], [(0, 0), (1, 0), (1, 1), (2, 1)]))
        self.assertEqual(sorts(AHEAD_IS_ALONE), ([(0, 0), (1, 1)], [], [(0, 1), (0, 2), (1, 0)]))
        self.assertEqual(sorts((ONE, ONE)), ([(0, 0)], [], []))

    def test_where_nobody_may_be_paired(self):
        for book in NOBODY:
            self.assertEqual(sorts(book), ([], [], []))

    def test_against_all_good_pairings(self):
        seen = 0
        for book, good in known_good():
            with self.subTest(book=book):
                told = sorts(book)
                self.assertIs(type(told), tuple)
                self.assertEqual([type(pairs) for pairs in told], [list, list, list])
                counts = {(i, j): sum(pairing[i] == j for pairing in good) for i, j in slow_allowed(book)}
                in_all = [pair for pair, count in counts.items() if count == len(good)]
                in_some = [pair for pair, count in counts.items() if 0 < count < len(good)]
                in_none = [pair for pair, count in counts.items() if count == 0]
                self.assertEqual(told, (in_all, in_some, in_none))
                seen += bool(in_all and in_some and in_none)
        self.assertGreater(seen, 10)

    def test_each_who_may_be_paired_in_just_one(self):
        for book in [*made_books(8), blocks(4), cyclic(8), doubled(3)]:
            with self.subTest(book=book):
                told = sorts(book)
                self.assertEqual(sorted(sum(told, [])), slow_allowed(book))
                self.assertTrue(all(type(pair) is tuple for pairs in told for pair in pairs))
                for pairs in told:
                    self.assertEqual(pairs, sorted(pairs))

    def test_new_lists_each_time(self):
        before = copy.deepcopy(sorts(MIXED))
        for pairs in sorts(MIXED):
            pairs.reverse()
            pairs.append(None)
        self.assertEqual(sorts(MIXED), before)


class WithPair(unittest.TestCase):
    def test_of_some_books(self):
        self.assertEqual(with_pair(BLOCKS, 0, 0), BEST)
        self.assertEqual(with_pair(BLOCKS, 2, 2), BEST)
        self.assertEqual(with_pair(BLOCKS, 0, 1), LEFT)
        self.assertEqual(with_pair(MIXED, 2, 2), (0, 1, 2))
        self.assertEqual(with_pair(MIXED, 1, 0), (1, 0, 2))
        self.assertEqual(with_pair(UNLIKE, 0, 1), (1, 0, -1))

    def test_where_none_has_it(self):
        self.assertIsNone(with_pair(MIXED, 0, 2))
        self.assertIsNone(with_pair(MIXED, 2, 0))
        self.assertIsNone(with_pair(MIXED, 2, 1))
        self.assertIsNone(with_pair(BLOCKS, 0, 2))
        for book in NOBODY:
            self.assertIsNone(with_pair(book, 0, 0))

    def test_numbers_of_nobody(self):
        # -1 tells who is alone, which is no pair; 2 of the ones is alone in UNLIKE.
        for i, j in ((2, -1), (-1, -1), (-1, 2), (-2, 0), (-3, 1), (3, 0), (0, 2), (8, 0), (0, 8), (9, 9)):
            with self.subTest(i=i, j=j):
                self.assertIsNone(with_pair(UNLIKE, i, j))
        self.assertIsNone(with_pair(BLOCKS, -1, 3))
        self.assertIsNone(with_pair(BLOCKS, 4, 0))

    def test_the_first_of_all_that_have_it(self):
        for book, good in known_good():
            for i, j in itertools.product(range(-1, len(book[0]) + 1), range(-1, len(book[1]) + 1)):
                with self.subTest(book=book, i=i, j=j):
                    having = [told for told in good if (i, j) in enumerate(told) and j != -1]
                    told = with_pair(book, i, j)
                    self.assertEqual(told, min(having, default=None))
                    self.assertIn(type(told), (tuple, type(None)))


class Cheapest(unittest.TestCase):
    def test_of_some_books(self):
        self.assertEqual(fairest(cyclic(3)), (6, (0, 1, 2)))
        self.assertEqual(gentlest(cyclic(3)), (1, (1, 2, 0)))
        self.assertEqual(fairest(SCARCE), (1, (1, -1, 0)))
        self.assertEqual(gentlest(SCARCE), (1, (1, -1, 0)))
        self.assertEqual(fairest((ONE, ONE)), (0, (0,)))
        self.assertEqual(gentlest((ONE, ONE)), (0, (0,)))

    def test_of_several_the_first(self):
        self.assertEqual(fairest(BLOCKS), (4, BEST))
        self.assertEqual(gentlest(BLOCKS), (1, BEST))

    def test_nobody_paired(self):
        for book in NOBODY:
            alone = (-1,) * len(book[0])
            self.assertEqual(fairest(book), (0, alone))
            self.assertEqual(gentlest(book), (0, alone))

    def test_who_is_alone_costs_nothing(self):
        # 1 and 2 of the ones are alone, and so are 1 and 2 of the others.
        for book in (((ONE[0],) * 3, (((0,), (1,), (2,)),)), ((((0,), (1,), (2,)),), (ONE[0],) * 3)):
            paired = (0, -1, -1)[:len(book[0])]
            self.assertEqual(fairest(book), (0, paired))
            self.assertEqual(gentlest(book), (0, paired))

    def test_places_are_in_the_order_and_not_in_the_row(self):
        # 0 of the others doesn't wish it, so that 1 is the first in its order.
        book = ((((0,), (1,)),), ((), ((0,),)))
        self.assertEqual(fairest(book), (0, (1,)))
        self.assertEqual(gentlest(book), (0, (1,)))

    def test_both_sides_cost(self):
        # 0 of the ones has the third in its order, and is the second in that one's.
        ones = (((0,), (1,), (2,)), ((0,),), ((1,),), ((2,),))
        others = (((1,), (0,)), ((2,), (0,)), ((0,), (3,)))
        self.assertEqual(fairest((ones, others)), (2, (2, 0, 1, -1)))
        self.assertEqual(gentlest((ones, others)), (2, (2, 0, 1, -1)))
        self.assertEqual(fairest((others, ones)), (2, (1, 2, 0)))
        self.assertEqual(gentlest((others, ones)), (2, (1, 2, 0)))

    def test_against_all_good_pairings(self):
        for ask, whole in ((fairest, sum), (gentlest, max)):
            tied = late = 0
            for book, good in known_good():
                with self.subTest(book=book, ask=ask.__name__):
                    costs = {pairing: whole(slow_costs(book, pairing)) for pairing in sorted(good)}
                    least = min(costs.values())
                    having = [pairing for pairing in costs if costs[pairing] == least]
                    told = ask(book)
                    self.assertEqual(told, (least, having[0]))
                    self.assertEqual([type(part) for part in told], [int, tuple])
                    tied += len(having) > 1
                    late += having[0] != min(good)
            # So that the first of several is asked for, and one that is not the first of all.
            self.assertGreater(tied, 5)
            self.assertGreater(late, 5)

    def test_of_all_sizes(self):
        for book in made_books(8):
            for ask in (fairest, gentlest):
                with self.subTest(book=book, ask=ask.__name__):
                    self.assertTrue(is_good(book, ask(book)[1]))


class Given(Refusing):
    def test_bad_books(self):
        for name, book in BAD_BOOKS.items():
            before = copy.deepcopy(book)
            with self.subTest(name):
                for ask in (sorts, fairest, gentlest):
                    self.refused(BadBook, ask, book)
                for i, j in ((0, 0), (-1, -1), (99, 99)):
                    self.refused(BadBook, with_pair, book, i, j)
                self.assertEqual(book, before)

    def test_the_book_stays_as_it_was(self):
        for book in (MIXED, SCARCE, cyclic(4)):
            before = copy.deepcopy(book)
            for pairs in sorts(book):
                pairs.clear()
            with_pair(book, 0, 0)
            fairest(book)
            gentlest(book)
            self.assertEqual(book, before)


if __name__ == "__main__":
    unittest.main()
