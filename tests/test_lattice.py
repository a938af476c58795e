"""Promises [8] and [9]: all turnings, parts and closed lists; [1], [2], [4] where they hold of them."""

import copy
import itertools
import random
import unittest

from pairlattice.asking import best_for
from pairlattice.errors import BadBook, BadPairing, NotClosed, NotGood
from pairlattice.lattice import Lattice
from pairlattice.pairings import is_good
from pairlattice.turnings import turned, turnings
from tests.books import (
    BAD_BOOKS, BAD_PAIRINGS, BEST, BLOCKS, BROKEN, LEFT, ONE, RIGHT, UNLIKE, WORST, all_pairings, blocks,
    cyclic, made_books, slow_breakers,
)
from tests.refusing import Refusing
from tests.walks import doubled, good_of_eight, opposed_book, ways, with_good_ones

FIRST, SECOND = ((0, 0), (1, 1)), ((2, 2), (3, 3))

# None of these is a closed list of BLOCKS, whose turnings are 0 and 1, neither ahead of the other.
NOT_CLOSED = {
    "falls": [1, 0],
    "a number twice": [0, 0],
    "the last number twice": [0, 1, 1],
    "below nought": [-1],
    "below nought ahead of a closed list": [-1, 0, 1],
    "far below nought": [-2, -1],
    "just beyond the last": [2],
    "beyond the last behind a closed list": [0, 1, 2],
    "far beyond the last": [0, 1, 99],
    "True": [True],
    "False": [False],
    "True behind 0": [0, True],
    "False and True": [False, True],
    "None in it": [None],
    "a text in it": ["0"],
    "a part of a number in it": [0.0],
    "a list in it": [[0]],
    "an empty list in it": [[]],
    "a turning in it": [FIRST],
    "a tuple": (0, 1),
    "nothing, but no list": (),
    "None": None,
    "a number": 0,
    "a text": "01",
    "a dict": {0: 0},
}


def of_numbers(told):
    """If something is a list of whole numbers."""
    return type(told) is list and all(type(number) is int for number in told)


class Turnings(unittest.TestCase):
    def test_of_some_books(self):
        self.assertEqual(Lattice(BLOCKS).turnings(), [FIRST, SECOND])
        self.assertEqual(Lattice(UNLIKE).turnings(), [((0, 1), (1, 0))])
        self.assertEqual(Lattice(cyclic(3)).turnings(), [((0, 0), (1, 1), (2, 2)), ((0, 1), (1, 2), (2, 0))])

    def test_of_a_book_with_one_good_pairing(self):
        for book in ((ONE, ONE), (((),), ((),))):
            self.assertEqual(Lattice(book).turnings(), [])

    def test_ascending_not_as_they_come(self):
        # The turning of 2 and 3 has to be done ahead of two that begin with lesser pairs.
        ones = (((0,), (2,)), ((1,), (3,)), ((2,), (3,), (1,)), ((3,), (2,), (0,)))
        others = (((3,), (0,)), ((2,), (1,)), ((0,), (3,), (2,)), ((1,), (2,), (3,)))
        told = Lattice((ones, others)).turnings()
        self.assertEqual(turnings((ones, others), (0, 1, 2, 3)), [SECOND])
        self.assertEqual(told, [((0, 0), (3, 2)), ((1, 1), (2, 3)), SECOND])
        self.assertEqual([Lattice((ones, others)).ahead(k) for k in range(3)], [[2], [2], []])

    def test_the_same_on_all_ways(self):
        most = 0
        for book, good in with_good_ones():
            lattice = Lattice(book)
            told = lattice.turnings()
            self.assertIs(type(told), list)
            self.assertEqual(told, sorted(told))
            for way in ways(book, turnings, turned, best_for(book, 0)):
                with self.subTest(book=book, way=way):
                    self.assertEqual(way[-1][0], best_for(book, 1))
                    self.assertEqual(sorted(way[-1][1]), told)
            most = max(most, len(told))
        self.assertGreater(most, 5)

    def test_some_ways_with_eight_a_side(self):
        chance = random.Random(8)
        for book in (doubled(3), blocks(4), cyclic(8), *[opposed_book(seed, 8, 8, 0) for seed in range(6)]):
            lattice = Lattice(book)
            numbers = {ring: number for number, ring in enumerate(lattice.turnings())}
            for _ in range(5):
                pairing, done = best_for(book, 0), []
                while turnings(book, pairing):
                    self.assertEqual(lattice.part(pairing), sorted(done))
                    ring = chance.choice(turnings(book, pairing))
                    pairing = turned(book, pairing, ring)
                    done.append(numbers[ring])
                self.assertEqual(pairing, best_for(book, 1))
                self.assertEqual(sorted(done), list(range(len(numbers))))


class Pairings(unittest.TestCase):
    def test_of_some_books(self):
        self.assertEqual(Lattice(BLOCKS).pairings(), [BEST, RIGHT, LEFT, WORST])
        self.assertEqual(Lattice(UNLIKE).pairings(), [(0, 1, -1), (1, 0, -1)])
        self.assertEqual(Lattice(cyclic(3)).pairings(), [(0, 1, 2), (1, 2, 0), (2, 0, 1)])
        self.assertEqual(Lattice((((),), ((),))).pairings(), [(-1,)])

    def test_just_the_good_ones_ascending(self):
        for book, good in with_good_ones():
            with self.subTest(book=book):
                told = Lattice(book).pairings()
                self.assertIs(type(told), list)
                self.assertTrue(all(type(pairing) is tuple for pairing in told))
                self.assertEqual(told, sorted(good))

    def test_eight_a_side(self):
        self.assertEqual(len(good_of_eight()), 268)
        self.assertEqual(Lattice(doubled(3)).pairings(), sorted(good_of_eight()))
        self.assertEqual(len(Lattice(blocks(4)).pairings()), 16)
        self.assertEqual(len(Lattice(cyclic(8)).pairings()), 8)

    def test_of_all_sizes(self):
        for book in made_books(8):
            with self.subTest(book=book):
                told = Lattice(book).pairings()
                self.assertEqual(told, sorted(told))
                self.assertTrue(all(is_good(book, pairing) for pairing in told))
                self.assertIn(best_for(book, 0), told)
                self.assertIn(best_for(book, 1), told)


class Parts(Refusing):
    def test_of_some_pairings(self):
        lattice = Lattice(BLOCKS)
        self.assertEqual([lattice.part(told) for told in (BEST, LEFT, RIGHT, WORST)], [[], [0], [1], [0, 1]])
        self.assertEqual([Lattice(UNLIKE).part(told) for told in ((1, 0, -1), (0, 1, -1))], [[], [0]])

    def test_what_leads_to_it_on_all_ways(self):
        for book, good in with_good_ones():
            lattice = Lattice(book)
            told = lattice.turnings()
            seen = set()
            for way in ways(book, turnings, turned, best_for(book, 0)):
                for pairing, done in way:
                    with self.subTest(book=book, pairing=pairing):
                        part = lattice.part(pairing)
                        self.assertTrue(of_numbers(part))
                        self.assertEqual(part, sorted(told.index(ring) for ring in done))
                    seen.add(pairing)
            self.assertEqual(seen, set(good))

    def test_what_is_no_pairing(self):
        lattice = Lattice(BLOCKS)
        for name, pairing in BAD_PAIRINGS.items():
            before = copy.deepcopy(pairing)
            with self.subTest(name):
                self.refused(BadPairing, lattice.part, pairing)
                self.assertEqual(pairing, before)

    def test_not_good(self):
        lattice = Lattice(BLOCKS)
        self.refused(NotGood, lattice.part, BROKEN)
        for pairing in all_pairings(BLOCKS):
            if slow_breakers(BLOCKS, pairing):
                with self.subTest(pairing=pairing):
                    self.refused(NotGood, lattice.part, pairing)


class Ahead(unittest.TestCase):
    def test_of_some_books(self):
        self.assertEqual([Lattice(BLOCKS).ahead(number) for number in (0, 1)], [[], []])
        self.assertEqual([Lattice(cyclic(4)).ahead(number) for number in range(3)], [[], [0], [0, 1]])

    def test_in_the_part_of_each_good_pairing_at_which_it_may_be_done(self):
        for book, good in with_good_ones():
            lattice = Lattice(book)
            for number, ring in enumerate(lattice.turnings()):
                with self.subTest(book=book, number=number):
                    parts = [lattice.part(pairing) for pairing in good if ring in turnings(book, pairing)]
                    self.assertGreater(len(parts), 0)
                    told = lattice.ahead(number)
                    self.assertTrue(of_numbers(told))
                    self.assertEqual(told, sorted(set(parts[0]).intersection(*parts)))

    def test_done_ahead_of_it_on_all_ways(self):
        for book, good in with_good_ones():
            lattice = Lattice(book)
            told = lattice.turnings()
            done = [way[-1][1] for way in ways(book, turnings, turned, best_for(book, 0))]
            for number, ring in enumerate(told):
                with self.subTest(book=book, number=number):
                    always = [
                        k for k, other in enumerate(told)
                        if all(way.index(other) < way.index(ring) for way in done)
                    ]
                    self.assertEqual(lattice.ahead(number), always)

    def test_eight_a_side(self):
        book = doubled(3)
        lattice = Lattice(book)
        open_at = {pairing: turnings(book, pairing) for pairing in good_of_eight()}
        for number, ring in enumerate(lattice.turnings()):
            parts = [lattice.part(pairing) for pairing, rings in open_at.items() if ring in rings]
            self.assertEqual(lattice.ahead(number), sorted(set(parts[0]).intersection(*parts)))

    def test_of_a_number_that_there_is_not_nothing_is_told(self):
        for book in (BLOCKS, cyclic(4), (ONE, ONE)):
            for number in (-1, -2, 8, 99):
                self.assertEqual(Lattice(book).ahead(number), [])


class Closed(Refusing):
    def test_of_some_lists(self):
        lattice = Lattice(BLOCKS)
        self.assertEqual([lattice.pairing(part) for part in ([], [0], [1], [0, 1])], [BEST, LEFT, RIGHT, WORST])
        self.assertEqual(Lattice((ONE, ONE)).pairing([]), (0,))

    def test_each_list_of_some_of_the_numbers(self):
        for book, good in with_good_ones():
            lattice = Lattice(book)
            numbers = range(len(lattice.turnings()))
            told = []
            for size in range(len(numbers) + 1):
                for some in map(list, itertools.combinations(numbers, size)):
                    with self.subTest(book=book, some=some):
                        if all(set(lattice.ahead(number)) <= set(some) for number in some):
                            told.append(lattice.pairing(some))
                            self.assertTrue(is_good(book, told[-1]))
                            self.assertEqual(lattice.part(told[-1]), some)
                        else:
                            self.refused(NotClosed, lattice.pairing, some)
            self.assertEqual(sorted(told), sorted(good))

    def test_of_each_good_pairing_with_eight_a_side(self):
        lattice = Lattice(doubled(3))
        for pairing in good_of_eight():
            part = lattice.part(pairing)
            self.assertTrue(all(set(lattice.ahead(number)) <= set(part) for number in part))
            self.assertEqual(lattice.pairing(part), pairing)
            self.refused(NotClosed, lattice.pairing, part + [28])
            self.refused(NotClosed, lattice.pairing, [-1] + part)
            if len(part) > 1:
                self.refused(NotClosed, lattice.pairing, part[::-1])

    def test_what_is_no_closed_list(self):
        lattice = Lattice(BLOCKS)
        for name, part in NOT_CLOSED.items():
            before = copy.deepcopy(part)
            with self.subTest(name):
                self.refused(NotClosed, lattice.pairing, part)
                self.assertEqual(part, before)

    def test_one_ahead_left_out(self):
        lattice = Lattice(cyclic(4))
        for part in ([1], [2], [1, 2], [0, 2]):
            self.refused(NotClosed, lattice.pairing, part)
        self.refused(NotClosed, lattice.pairing, [1, 0])
        self.refused(NotClosed, lattice.pairing, [0, 1, 1])
        self.refused(NotClosed, lattice.pairing, [0, True])
        self.assertEqual(lattice.pairing([0, 1]), (2, 3, 0, 1))

    def test_no_numbers_at_all(self):
        lattice = Lattice((ONE, ONE))
        for part in ([0], [-1], [False]):
            self.refused(NotClosed, lattice.pairing, part)


class Given(Refusing):
    def test_bad_books(self):
        for name, book in BAD_BOOKS.items():
            before = copy.deepcopy(book)
            with self.subTest(name):
                self.refused(BadBook, Lattice, book)
                self.assertEqual(book, before)

    def test_lists_are_new_ones_each_time(self):
        for book in (BLOCKS, cyclic(4), doubled(2), UNLIKE):
            lattice = Lattice(book)
            before = copy.deepcopy(self.all_told(lattice))
            for _ in range(2):
                for told in self.lists_told(lattice):
                    told.reverse()
                    told.append(7)
                    told[0] = None
                self.assertEqual(self.all_told(lattice), before)

    def lists_told(self, lattice):
        numbers = range(len(lattice.turnings()))
        return [
            lattice.turnings(),
            lattice.pairings(),
            *[lattice.ahead(number) for number in numbers],
            *[lattice.part(pairing) for pairing in lattice.pairings()],
        ]

    def all_told(self, lattice):
        parts = [lattice.part(pairing) for pairing in lattice.pairings()]
        return self.lists_told(lattice) + [lattice.pairing(part) for part in parts]

    def test_what_is_told_has_nothing_within_that_could_be_changed(self):
        lattice = Lattice(doubled(2))
        for told in (lattice.turnings(), lattice.pairings()):
            self.assertTrue(all(type(item) is tuple for item in told))
        self.assertTrue(all(type(pair) is tuple for ring in lattice.turnings() for pair in ring))

    def test_a_list_handed_in_stays_as_it_was_and_is_not_kept(self):
        lattice = Lattice(BLOCKS)
        part = [0]
        self.assertEqual(lattice.pairing(part), LEFT)
        self.assertEqual(part, [0])
        part.append(1)
        self.assertEqual(lattice.pairing(part), WORST)
        self.assertEqual(lattice.pairing([0]), LEFT)
        self.assertEqual(lattice.part(LEFT), [0])

    def test_the_book_stays_as_it_was(self):
        book = copy.deepcopy(BLOCKS)
        self.all_told(Lattice(book))
        self.assertEqual(book, BLOCKS)

    def test_two_books_beside_one_another(self):
        one, two = Lattice(BLOCKS), Lattice(cyclic(4))
        self.assertEqual(one.pairing([0, 1]), WORST)
        self.assertEqual(two.pairing([0, 1]), (2, 3, 0, 1))
        self.refused(NotGood, two.part, LEFT)
        self.assertEqual(one.turnings(), [FIRST, SECOND])


if __name__ == "__main__":
    unittest.main()
