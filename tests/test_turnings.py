"""Promise [7]: turnings at a good pairing, and turned; [1], [4] where they hold of them."""

import copy
import itertools
import unittest

from pairlattice.asking import best_for
from pairlattice.errors import BadPairing, NotGood, NoTurning
from pairlattice.pairings import is_good
from pairlattice.turnings import turned, turnings
from tests.books import (
    BAD_PAIRINGS, BEST, BLOCKS, BROKEN, LEFT, ONE, RIGHT, UNLIKE, WORST, all_pairings, blocks, cyclic,
    slow_breakers, wish,
)
from tests.refusing import Refusing
from tests.walks import (
    AHEAD_IS_ALONE, AHEAD_OF_A_RING, FALLING_RING, doubled, just_behind, slow_turnings, with_good_ones,
)

FIRST, SECOND = ((0, 0), (1, 1)), ((2, 2), (3, 3))

# What is no turning at BEST, at which FIRST and SECOND are.
NO_TURNINGS = {
    "nothing": (),
    "None": None,
    "True": True,
    "a number": 0,
    "a text": "((0, 0), (1, 1))",
    "a dict": {0: 0, 1: 1},
    "a list": [(0, 0), (1, 1)],
    "an empty list": [],
    "a tuple of lists": ([0, 0], [1, 1]),
    "one of its pairs a list": ((0, 0), [1, 1]),
    "turned round": ((1, 1), (0, 0)),
    "one pair": ((0, 0),),
    "one pair more": ((0, 0), (1, 1), (2, 2)),
    "a pair twice": ((0, 0), (1, 1), (1, 1)),
    "both at once": ((0, 0), (1, 1), (2, 2), (3, 3)),
    "two in one tuple": (FIRST, SECOND),
    "halves of two": ((0, 0), (2, 2)),
    "what the pairs become": ((0, 1), (1, 0)),
    "numbers for pairs": (0, 1),
    "pairs of three": ((0, 0, 0), (1, 1, 1)),
    "pairs of one": ((0,), (1,)),
    "empty pairs": ((), ()),
    "False and True": ((False, False), (True, True)),
    "True in it": ((0, 0), (1, True)),
    "False in it": ((False, 0), (1, 1)),
    "parts of numbers in it": ((0.0, 0.0), (1.0, 1.0)),
    "texts in it": (("0", "0"), ("1", "1")),
    "None in it": ((0, 0), (1, None)),
    "alone ones": ((0, -1), (1, -1)),
    "below nought": ((-4, 0), (-3, 1)),
    "nobody's numbers": ((8, 8), (9, 9)),
}


class Turnings(unittest.TestCase):
    def test_at_all_good_pairings_of_a_book(self):
        self.assertEqual(turnings(BLOCKS, BEST), [FIRST, SECOND])
        self.assertEqual(turnings(BLOCKS, LEFT), [SECOND])
        self.assertEqual(turnings(BLOCKS, RIGHT), [FIRST])
        self.assertEqual(turnings(BLOCKS, WORST), [])

    def test_a_ring_of_all(self):
        book = cyclic(4)
        self.assertEqual(turnings(book, (0, 1, 2, 3)), [((0, 0), (1, 1), (2, 2), (3, 3))])
        self.assertEqual(turnings(book, (1, 2, 3, 0)), [((0, 1), (1, 2), (2, 3), (3, 0))])
        self.assertEqual(turnings(book, (2, 3, 0, 1)), [((0, 2), (1, 3), (2, 0), (3, 1))])
        self.assertEqual(turnings(book, (3, 0, 1, 2)), [])

    def test_in_the_order_of_the_ring(self):
        self.assertEqual(turnings(FALLING_RING, (0, 1, 2)), [((0, 0), (2, 2), (1, 1))])
        self.assertEqual(turned(FALLING_RING, (0, 1, 2), ((0, 0), (2, 2), (1, 1))), (2, 0, 1))

    def test_no_further_one_where_the_next_is_alone(self):
        self.assertEqual(turnings(AHEAD_IS_ALONE, (0, 1)), [])
        ones, others = AHEAD_IS_ALONE
        self.assertEqual(turnings((ones, others[:2] + ((),)), (0, 1)), [FIRST])

    def test_who_leads_into_a_ring_is_not_in_it(self):
        self.assertEqual(turnings(AHEAD_OF_A_RING, (0, 1, 2)), [((1, 1), (2, 2))])
        self.assertEqual(turnings(AHEAD_OF_A_RING, (0, 2, 1)), [])

    def test_some_who_are_alone(self):
        self.assertEqual(turnings(UNLIKE, (1, 0, -1)), [((0, 1), (1, 0))])
        self.assertEqual(turnings(UNLIKE, (0, 1, -1)), [])
        self.assertEqual(turnings((((),), ((),)), (-1,)), [])
        self.assertEqual(turnings((ONE, ONE), (0,)), [])

    def test_several_ascending(self):
        found = [tuple((k, k) for k in (low, low + 1)) for low in (0, 2, 4, 6)]
        self.assertEqual(turnings(blocks(4), tuple(range(8))), found)

    def test_each_ring_tried_at_all_good_pairings(self):
        for book, good in with_good_ones():
            for pairing in good:
                with self.subTest(book=book, pairing=pairing):
                    told = turnings(book, pairing)
                    self.assertIs(type(told), list)
                    self.assertEqual(told, slow_turnings(book, pairing))
                    for ring in told:
                        self.assertIs(type(ring), tuple)
                        self.assertTrue(all(type(pair) is tuple for pair in ring))
                        self.assertEqual(ring[0], min(ring))

    def test_none_at_the_best_for_the_others_and_some_elsewhere(self):
        for book, good in with_good_ones():
            for pairing in good:
                with self.subTest(book=book, pairing=pairing):
                    self.assertEqual(not turnings(book, pairing), pairing == best_for(book, 1))

    def test_a_new_list_each_time(self):
        changed = turnings(BLOCKS, BEST)
        changed.reverse()
        changed.pop()
        self.assertEqual(turnings(BLOCKS, BEST), [FIRST, SECOND])


class Turned(unittest.TestCase):
    def test_each_has_its_next(self):
        self.assertEqual(turned(BLOCKS, BEST, FIRST), LEFT)
        self.assertEqual(turned(BLOCKS, BEST, SECOND), RIGHT)
        self.assertEqual(turned(BLOCKS, LEFT, SECOND), WORST)
        self.assertEqual(turned(BLOCKS, RIGHT, FIRST), WORST)
        self.assertEqual(turned(cyclic(3), (0, 1, 2), ((0, 0), (1, 1), (2, 2))), (1, 2, 0))
        self.assertEqual(turned(UNLIKE, (1, 0, -1), ((0, 1), (1, 0))), (0, 1, -1))

    def test_good_and_worse_for_just_those_of_the_ring(self):
        for book, good in with_good_ones():
            for pairing in good:
                for ring in turnings(book, pairing):
                    with self.subTest(book=book, pairing=pairing, ring=ring):
                        told = turned(book, pairing, ring)
                        self.assertIs(type(told), tuple)
                        self.assertIn(told, good)
                        self.assert_worse_for_just(book, dict(ring), pairing, told)

    def assert_worse_for_just(self, book, ring, pairing, told):
        for i, row in enumerate(book[0]):
            if i in ring:
                self.assertEqual(pairing[i], ring[i])
                self.assertLess(wish(row, pairing[i]), wish(row, told[i]))
            else:
                self.assertEqual(pairing[i], told[i])

    def test_no_good_pairing_between_and_none_left_out(self):
        for book, good in with_good_ones():
            for pairing in good:
                with self.subTest(book=book, pairing=pairing):
                    found = [turned(book, pairing, ring) for ring in turnings(book, pairing)]
                    self.assertEqual(sorted(found), sorted(just_behind(book, good, pairing)))

    def test_eight_a_side(self):
        book = doubled(3)
        pairing = best_for(book, 0)
        done = 0
        while turnings(book, pairing):
            pairing = turned(book, pairing, turnings(book, pairing)[-1])
            self.assertTrue(is_good(book, pairing))
            done += 1
        self.assertEqual(pairing, best_for(book, 1))
        self.assertEqual(done, 28)

    def test_an_equal_one_that_is_another_object(self):
        another = tuple(tuple(list(pair)) for pair in FIRST)
        self.assertIsNot(another, FIRST)
        self.assertEqual(turned(BLOCKS, BEST, another), LEFT)

    def test_what_is_handed_in_stays_as_it_was(self):
        handed = copy.deepcopy((BLOCKS, BEST, FIRST))
        turnings(handed[0], handed[1]).clear()
        turned(*handed)
        self.assertEqual(handed, (BLOCKS, BEST, FIRST))


class NoTurnings(Refusing):
    def test_each_is_refused(self):
        for name, turning in NO_TURNINGS.items():
            before = copy.deepcopy(turning)
            with self.subTest(name):
                self.refused(NoTurning, turned, BLOCKS, BEST, turning)
                self.refused(NoTurning, turned, BLOCKS, WORST, turning)
                self.assertEqual(turning, before)

    def test_of_another_pairing(self):
        self.refused(NoTurning, turned, BLOCKS, LEFT, FIRST)
        self.refused(NoTurning, turned, BLOCKS, RIGHT, SECOND)
        self.refused(NoTurning, turned, BLOCKS, WORST, FIRST)
        self.refused(NoTurning, turned, cyclic(3), (0, 1, 2), ((0, 1), (1, 2), (2, 0)))

    def test_its_pairs_in_another_order(self):
        ring = ((0, 0), (1, 1), (2, 2), (3, 3))
        for other in itertools.permutations(ring):
            if other != ring:
                with self.subTest(other=other):
                    self.refused(NoTurning, turned, cyclic(4), (0, 1, 2, 3), other)
        self.assertEqual(turned(cyclic(4), (0, 1, 2, 3), ring), (1, 2, 3, 0))

    def test_any_ring_that_is_told_elsewhere_alone(self):
        for book, good in with_good_ones():
            told = {pairing: turnings(book, pairing) for pairing in good}
            for pairing, ring in itertools.product(good, sorted(sum(told.values(), []))):
                if ring not in told[pairing]:
                    with self.subTest(book=book, pairing=pairing, ring=ring):
                        self.refused(NoTurning, turned, book, pairing, ring)


class BadPairings(Refusing):
    def test_what_is_no_pairing(self):
        for name, pairing in BAD_PAIRINGS.items():
            before = copy.deepcopy(pairing)
            with self.subTest(name):
                self.refused(BadPairing, turnings, BLOCKS, pairing)
                self.refused(BadPairing, turned, BLOCKS, pairing, FIRST)
                for turning in NO_TURNINGS.values():
                    self.refused(BadPairing, turned, BLOCKS, pairing, turning)
                self.assertEqual(pairing, before)

    def test_not_good(self):
        self.refused(NotGood, turnings, BLOCKS, BROKEN)
        self.refused(NotGood, turned, BLOCKS, BROKEN, SECOND)
        for turning in NO_TURNINGS.values():
            self.refused(NotGood, turned, BLOCKS, BROKEN, turning)

    def test_every_pairing_that_is_not_good(self):
        for pairing in all_pairings(BLOCKS):
            if slow_breakers(BLOCKS, pairing):
                with self.subTest(pairing=pairing):
                    self.refused(NotGood, turnings, BLOCKS, pairing)
                    self.refused(NotGood, turned, BLOCKS, pairing, FIRST)
                    self.refused(NotGood, turned, BLOCKS, pairing, ())


if __name__ == "__main__":
    unittest.main()
