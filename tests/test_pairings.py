"""Promises [4], [5] and [10]: pairings, breakers, and better; [1] where it holds of them."""

import copy
import itertools
import unittest

from pairlattice.errors import BadPairing, NotGood
from pairlattice.pairings import better, breakers, is_good
from tests.books import (
    BAD_PAIRINGS, BEST, BLOCKS, BROKEN, LEFT, ONE, RIGHT, UNLIKE, WORST, all_pairings, blocks, cyclic,
    good_pairings, made_book, made_books, slow_better, slow_breakers,
)
from tests.refusing import Refusing


class Breakers(unittest.TestCase):
    def test_of_a_good_pairing(self):
        for pairing in (BEST, LEFT, RIGHT, WORST):
            self.assertEqual(breakers(BLOCKS, pairing), [])

    def test_of_everybody_alone(self):
        found = [(0, 0), (0, 1), (1, 0), (1, 1), (2, 2), (2, 3), (3, 2), (3, 3)]
        self.assertEqual(breakers(BLOCKS, (-1, -1, -1, -1)), found)
        self.assertEqual(breakers(BLOCKS, BROKEN), found[:4])

    def test_ascending_and_not_by_wishes(self):
        book = ((((1,), (0,)), ((1,), (0,))), (((1,), (0,)), ((1,), (0,))))
        self.assertEqual(breakers(book, (-1, -1)), [(0, 0), (0, 1), (1, 0), (1, 1)])
        self.assertEqual(breakers(book, (-1, 0)), [(0, 1), (1, 1)])

    def test_who_is_alone_would_rather_have_the_last_of_its_order(self):
        book = ((((0,), (1,)), ((0,),)), (((0,), (1,)), ((0,),)))
        self.assertEqual(breakers(book, (-1, 0)), [(0, 0), (0, 1)])
        self.assertEqual(breakers(book, (1, -1)), [(0, 0), (1, 0)])

    def test_not_where_only_one_of_the_two_would_rather(self):
        book = ((((0,), (1,)), ((0,), (1,))), (((0,), (1,)), ((0,), (1,))))
        self.assertEqual(breakers(book, (0, 1)), [])
        self.assertEqual(breakers(book, (1, 0)), [(0, 0)])

    def test_not_where_two_may_not_be_paired(self):
        book = ((((0,), (1,)),), ((), ((0,),)))
        self.assertEqual(breakers(book, (1,)), [])
        self.assertEqual(breakers(book, (-1,)), [(0, 1)])

    def test_within_a_group_the_lower_number_is_rather_wished(self):
        book = ((((0, 1),), ((0, 1),)), (((0, 1),), ((0, 1),)))
        self.assertEqual(breakers(book, (0, 1)), [])
        self.assertEqual(breakers(book, (1, 0)), [(0, 0)])

    def test_unlike_sizes(self):
        self.assertEqual(breakers(UNLIKE, (1, 0, -1)), [])
        self.assertEqual(breakers(UNLIKE, (-1, -1, -1)), [(0, 0), (0, 1), (1, 0), (1, 1)])
        self.assertEqual(breakers(UNLIKE, (-1, 0, -1)), [(0, 0), (0, 1)])

    def test_where_nobody_may_be_paired(self):
        self.assertEqual(breakers((((),), ((),)), (-1,)), [])

    def test_of_all_pairings(self):
        for book in made_books(4):
            for pairing in all_pairings(book):
                with self.subTest(book=book, pairing=pairing):
                    found = breakers(book, pairing)
                    self.assertIs(type(found), list)
                    self.assertEqual(found, slow_breakers(book, pairing))
                    self.assertIs(is_good(book, pairing), not found)

    def test_eight_a_side(self):
        for full in (False, True):
            book = made_book(8, 8, 8, full)
            for pairing in itertools.islice(all_pairings_of_a_few(book), 60):
                with self.subTest(book=book, pairing=pairing):
                    self.assertEqual(breakers(book, pairing), slow_breakers(book, pairing))

    def test_a_new_list_each_time(self):
        first = breakers(BLOCKS, BROKEN)
        first.clear()
        self.assertEqual(len(breakers(BLOCKS, BROKEN)), 4)


def all_pairings_of_a_few(book):
    """Pairings of a large book, in each of which only three of the ones are paired."""
    for few in itertools.combinations(range(len(book[0])), 3):
        rest = [row if i in few else () for i, row in enumerate(book[0])]
        yield from itertools.islice(reversed(all_pairings((tuple(rest), book[1]))), 3)


class Good(unittest.TestCase):
    def test_just_where_there_are_no_breakers(self):
        good = [pairing for pairing in all_pairings(BLOCKS) if is_good(BLOCKS, pairing)]
        self.assertEqual(sorted(good), sorted([BEST, LEFT, RIGHT, WORST]))

    def test_true_or_false(self):
        self.assertIs(is_good(BLOCKS, BEST), True)
        self.assertIs(is_good(BLOCKS, BROKEN), False)
        self.assertIs(is_good((ONE, ONE), (0,)), True)
        self.assertIs(is_good((ONE, ONE), (-1,)), False)
        self.assertIs(is_good((((),), ((),)), (-1,)), True)


class BadPairings(Refusing):
    def test_each_is_refused(self):
        for name, pairing in BAD_PAIRINGS.items():
            before = copy.deepcopy(pairing)
            with self.subTest(name):
                self.refused(BadPairing, breakers, BLOCKS, pairing)
                self.refused(BadPairing, is_good, BLOCKS, pairing)
                for side in (0, 1):
                    self.refused(BadPairing, better, BLOCKS, side, pairing, BEST)
                    self.refused(BadPairing, better, BLOCKS, side, BEST, pairing)
                    self.refused(BadPairing, better, BLOCKS, side, pairing, pairing)
                self.assertEqual(pairing, before)

    def test_two_of_whom_only_one_wishes_the_other(self):
        book = ((((0,),), ((1,),)), (((0, 1),), ()))
        for pairing in ((-1, 0), (-1, 1)):
            self.refused(BadPairing, breakers, book, pairing)
            self.refused(BadPairing, is_good, book, pairing)
        self.assertEqual(breakers(book, (0, -1)), [])

    def test_the_first_one_first(self):
        for name, pairing in BAD_PAIRINGS.items():
            for side in (0, 1):
                with self.subTest(name, side=side):
                    self.refused(NotGood, better, BLOCKS, side, BROKEN, pairing)
                    self.refused(BadPairing, better, BLOCKS, side, pairing, BROKEN)

    def test_not_good(self):
        for side in (0, 1):
            self.refused(NotGood, better, BLOCKS, side, BROKEN, BEST)
            self.refused(NotGood, better, BLOCKS, side, BEST, BROKEN)
            self.refused(NotGood, better, BLOCKS, side, BROKEN, BROKEN)

    def test_every_pairing_that_is_not_good(self):
        for pairing in all_pairings(BLOCKS):
            if slow_breakers(BLOCKS, pairing):
                with self.subTest(pairing=pairing):
                    self.refused(NotGood, better, BLOCKS, 0, LEFT, pairing)
                    self.refused(NotGood, better, BLOCKS, 1, pairing, RIGHT)


class Better(unittest.TestCase):
    def test_for_either_side(self):
        for one, other in ((LEFT, RIGHT), (RIGHT, LEFT), (BEST, WORST), (WORST, BEST)):
            with self.subTest(one=one, other=other):
                self.assertEqual(better(BLOCKS, 0, one, other), BEST)
                self.assertEqual(better(BLOCKS, 1, one, other), WORST)

    def test_of_one_that_is_better_for_all(self):
        for one, other in ((BEST, LEFT), (LEFT, BEST)):
            self.assertEqual(better(BLOCKS, 0, one, other), BEST)
            self.assertEqual(better(BLOCKS, 1, one, other), LEFT)

    def test_of_a_pairing_and_itself(self):
        for side in (0, 1):
            for pairing in (BEST, LEFT, RIGHT, WORST):
                self.assertEqual(better(BLOCKS, side, pairing, pairing), pairing)

    def test_with_some_who_are_alone(self):
        # 2 of the ones and 0 of the others are alone in all good pairings.
        ones = (((1,), (2,)), ((2,), (1,)), ((1,), (2,)), ((3,),))
        others = ((), ((1,), (0,), (2,)), ((0,), (1,), (2,)), ((3,),))
        book = (ones, others)
        first, last = (1, 2, -1, 3), (2, 1, -1, 3)
        for one, other in ((first, last), (last, first)):
            self.assertEqual(better(book, 0, one, other), first)
            self.assertEqual(better(book, 1, one, other), last)

    def test_unlike_sizes(self):
        ones = (((0,), (1,)), ((1,), (0,)))
        others = (((1,), (0,)), ((0,), (1,)), ((0, 1),))
        for book, first, last in (
            ((ones, others), (0, 1), (1, 0)),
            ((others, ones), (1, 0, -1), (0, 1, -1)),
        ):
            with self.subTest(book=book):
                self.assertEqual(better(book, 0, last, first), first)
                self.assertEqual(better(book, 1, first, last), last)

    def test_nobody_paired(self):
        self.assertEqual(better((((),), ((),)), 0, (-1,), (-1,)), (-1,))
        self.assertEqual(better((((),), ((),)), 1, (-1,), (-1,)), (-1,))

    def test_of_all_two_good_pairings(self):
        made = [made_book(seed, 4, 3 + seed % 3, seed % 2 == 0) for seed in range(150)]
        some = [blocks(2), blocks(3), blocks(4), cyclic(3), cyclic(5), *made]
        known = [(book, good_pairings(book)) for book in some]
        self.assertGreater(sum(len(good) > 1 for book, good in known), 10)
        for book, good in known:
            for (one, other), side in itertools.product(itertools.product(good, good), (0, 1)):
                with self.subTest(book=book, one=one, other=other, side=side):
                    told = better(book, side, one, other)
                    self.assertIs(type(told), tuple)
                    self.assertEqual(told, slow_better(book, side, one, other))
                    self.assertIn(told, good)

    def test_what_is_handed_in_stays_as_it_was(self):
        book, one, other = copy.deepcopy((BLOCKS, LEFT, RIGHT))
        for side in (0, 1):
            better(book, side, one, other)
        self.assertEqual((book, one, other), (BLOCKS, LEFT, RIGHT))


if __name__ == "__main__":
    unittest.main()
