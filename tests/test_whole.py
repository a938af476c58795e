"""Promise [1] over the whole program: what is handed in stays, what is told may be changed."""

import copy
import unittest

from pairlattice.asking import asks, best_for
from pairlattice.chosen import fairest, gentlest, sorts, with_pair
from pairlattice.lattice import Lattice
from pairlattice.mending import mended
from pairlattice.pairings import better, breakers, is_good
from pairlattice.texts import read, written
from pairlattice.turnings import turned, turnings
from pairlattice.wishes import order
from tests.books import BLOCKS, UNLIKE, cyclic
from tests.walks import SCARCE, doubled

BOOKS = (BLOCKS, UNLIKE, SCARCE, cyclic(3), doubled(2))


def everybody(book):
    """Everybody of a book, as (side, number)."""
    return [(side, number) for side in (0, 1) for number in range(len(book[side]))]


def told_of_a_book(book, lattice):
    """What there is to tell of a book itself, each thing by its name."""
    alone = (-1,) * len(book[0])
    return {
        "order": [order(book, *one) for one in everybody(book)],
        "breakers": breakers(book, alone),
        "asks": [asks(book, side) for side in (0, 1)],
        "best_for": [best_for(book, side) for side in (0, 1)],
        "Lattice.turnings": lattice.turnings(),
        "Lattice.ahead": [lattice.ahead(number) for number in range(len(lattice.turnings()))],
        "Lattice.pairings": lattice.pairings(),
        "sorts": sorts(book),
        "with_pair": [with_pair(book, i, j) for i in range(3) for j in range(3)],
        "fairest": fairest(book),
        "gentlest": gentlest(book),
        "written": written(book),
        "read": read(written(book)),
    }


def told_of_a_pairing(book, lattice, pairing):
    """What there is to tell of a good pairing of a book, each thing by its name."""
    first = best_for(book, 0)
    return {
        "is_good": is_good(book, pairing),
        "better": [better(book, side, first, pairing) for side in (0, 1)],
        "turnings": turnings(book, pairing),
        "turned": [turned(book, pairing, ring) for ring in turnings(book, pairing)],
        "Lattice.part": lattice.part(pairing),
        "Lattice.pairing": lattice.pairing(lattice.part(pairing)),
        "mended": [mended(book, pairing, *one, book[one[0]][one[1]]) for one in everybody(book)],
    }


def all_told(book, lattice):
    """All that there is to tell of a book."""
    pairings = {pairing: told_of_a_pairing(book, lattice, pairing) for pairing in lattice.pairings()}
    return told_of_a_book(book, lattice), pairings


def spoil(told):
    """Change all lists in what was told, the inner ones first."""
    if isinstance(told, dict):
        told = tuple(told.values())
    if isinstance(told, (list, tuple)):
        for part in told:
            spoil(part)
    if isinstance(told, list):
        told.reverse()
        told.append("spoilt")


class Whole(unittest.TestCase):
    def setUp(self):
        self.lattices = [(book, Lattice(book)) for book in BOOKS]

    def test_spoiling_reaches_inner_lists(self):
        for book, lattice in self.lattices:
            told = all_told(book, lattice)
            spoil(told)
            self.assertEqual(told[0]["sorts"][2][-1], "spoilt")
            self.assertEqual(told[0]["asks"][0][-1], "spoilt")
            for of_pairing in told[1].values():
                self.assertEqual(of_pairing["mended"][-2][1][-1], "spoilt")

    def test_told_again_after_it_was_changed(self):
        for book, lattice in self.lattices:
            before = copy.deepcopy(all_told(book, lattice))
            for _ in range(2):
                spoil(all_told(book, lattice))
                with self.subTest(book=book):
                    self.assertEqual(all_told(book, lattice), before)
                    self.assertEqual(all_told(book, Lattice(book)), before)

    def test_of_one_book_and_of_another_in_turn(self):
        before = [copy.deepcopy(all_told(*known)) for known in self.lattices]
        for _ in range(2):
            for known, told in zip(self.lattices, before):
                with self.subTest(book=known[0]):
                    self.assertEqual(all_told(*known), told)
                    spoil(all_told(*known))

    def test_an_equal_book_is_told_the_same(self):
        for book, lattice in self.lattices:
            another = read(written(book))
            self.assertIsNot(another, book)
            self.assertEqual(all_told(another, Lattice(another)), all_told(book, lattice))

    def test_what_is_handed_in_stays_as_it_was(self):
        for book, lattice in self.lattices:
            before = copy.deepcopy(book)
            spoil(all_told(book, lattice))
            with self.subTest(book=before):
                self.assertEqual(book, before)


if __name__ == "__main__":
    unittest.main()
