"""Promise [13]: mended; [1], [2], [4] where they hold of it."""

import copy
import itertools
import random
import unittest

from pairlattice.errors import BadBook, BadPairing, NotGood
from pairlattice.mending import mended
from tests.books import (
    BAD_BOOKS, BAD_PAIRINGS, BEST, BLOCKS, BROKEN, LEFT, ONE, ROW, UNLIKE, WORST, all_pairings, cyclic,
    good_pairings, made_row, slow_breakers, slow_order, wish,
)
from tests.refusing import Refusing
from tests.walks import AHEAD_IS_ALONE, SCARCE, doubled, good_of_eight, with_good_ones

# Each makes BLOCKS no book, as a row of either side.
BAD_ROWS = {
    "None": None,
    "True": True,
    "a number": 0,
    "a text": "one 0: 0",
    "an empty text": "",
    "a dict": {},
    "a list": [(0,)],
    "an empty list": [],
    "a group that is a list": ([0],),
    "a group that is a number": (0,),
    "a group that is None": (None,),
    "an empty group": ((),),
    "an empty group behind another": ((0,), ()),
    "a number twice in a group": ((1, 1),),
    "a number twice in a row": ((1,), (0,), (1,)),
    "just beyond the other side": ((0,), (4,)),
    "far beyond the other side": ((99,),),
    "below nought": ((-1,),),
    "True in it": ((True,),),
    "False in it": ((False, 1),),
    "None in it": ((None,),),
    "a text in it": (("0",),),
    "a part of a number in it": ((0.0,),),
    "a group that falls": ((1, 0),),
    "a group that falls at its end": ((0, 3, 2),),
}


def with_row(book, side, number, row):
    """The book with a new row."""
    sides = [list(rows) for rows in book]
    sides[side][number] = row
    return tuple(tuple(rows) for rows in sides)


class SlowMending:
    """A pairing that is mended with everybody named as (side, number), whatever its side."""

    def __init__(self, book, pairing):
        self.book = book
        self.count = len(pairing)
        self.has = {}
        for i, j in enumerate(pairing):
            if j != -1:
                self.pair((0, i), (1, j))

    def pair(self, one, two):
        self.has[one], self.has[two] = two, one

    def part(self, one):
        """Leave alone both one and whom it has; tell that one, or None."""
        two = self.has.pop(one, None)
        self.has.pop(two, None)
        return two

    def would(self, one, two):
        """If someone would rather have another one than what it has."""
        row = self.book[one[0]][one[1]]
        own = self.has.get(one)
        return own is None or wish(row, two[1]) < wish(row, own[1])

    def mend(self, k):
        p = self.part(k)
        waiting = [k] if p is None else [p, k]
        steps = []
        while waiting:
            comer = waiting.pop(0)
            while comer is not None:
                across = 1 - comer[0]
                takers = [(across, number) for number in slow_order(self.book, *comer)]
                takers = [one for one in takers if one not in waiting and self.would(one, comer)]
                if not takers:
                    break
                left = self.part(takers[0])
                self.pair(comer, takers[0])
                steps.append((min(comer, takers[0])[1], max(comer, takers[0])[1]))
                comer = left
        return tuple(self.has.get((0, i), (1, -1))[1] for i in range(self.count)), steps


def new_rows(chance, book, side, number):
    """Some rows for one of a side: its own, none, all turned round, and some others."""
    own, many = book[side][number], len(book[1 - side])
    yield own
    yield ()
    yield own[::-1]
    yield (tuple(range(many)),)
    for _ in range(2):
        yield made_row(chance, many, chance.randint(1, many))


def changes(seed, book, good):
    """Some good pairings of a book, each with new rows for everybody."""
    chance = random.Random(seed)
    for pairing in chance.sample(good, min(len(good), 5)):
        for side in (0, 1):
            for number in range(len(book[side])):
                for row in new_rows(chance, book, side, number):
                    yield book, pairing, side, number, row


def many_changes():
    """Changes of all small books, and of one with eight a side."""
    for seed, (book, good) in enumerate([(doubled(3), good_of_eight()), *with_good_ones()]):
        yield from changes(seed, book, good)


def all_rows():
    """Each row of wishes among two."""
    return [(), ((0,),), ((1,),), ((0,), (1,)), ((1,), (0,)), ((0, 1),)]


class OneOfTheOnes(unittest.TestCase):
    def test_who_was_alone_and_stays_so(self):
        self.assertEqual(mended(SCARCE, (1, -1, 0), 0, 1, ((1,), (0,))), ((1, -1, 0), []))
        self.assertEqual(mended(SCARCE, (1, -1, 0), 0, 1, ()), ((1, -1, 0), []))
        self.assertEqual(mended(UNLIKE, (1, 0, -1), 0, 2, ROW), ((1, 0, -1), []))

    def test_who_was_alone_and_comes_in(self):
        # 0 of the others would rather have it; 0 of the ones, then alone, finds 1, who was alone.
        book = ((((0,), (1,)), ()), (((1,), (0,)), ((0,), (1,))))
        self.assertEqual(mended(book, (0, -1), 0, 1, ROW), ((1, 0), [(1, 0), (0, 1)]))

    def test_whom_it_had_comes_in_ahead_of_it(self):
        # 0 of the others passes 2 over, who waits, and has 1 until 2 comes in.
        told = mended(SCARCE, (1, -1, 0), 0, 2, ((1,), (0,)))
        self.assertEqual(told, ((1, -1, 0), [(1, 0), (2, 0)]))

    def test_without_groups(self):
        self.assertEqual(mended(SCARCE, (1, -1, 0), 0, 2, ()), ((1, 0, -1), [(1, 0)]))
        self.assertEqual(mended(BLOCKS, LEFT, 0, 3, ()), ((1, 0, 2, -1), []))
        self.assertEqual(mended((ONE, ONE), (0,), 0, 0, ()), ((-1,), []))

    def test_whom_it_had_finds_nobody_and_it_finds_one_who_was_alone(self):
        told = mended(AHEAD_IS_ALONE, (0, 1), 0, 0, ((2,), (0,), (1,)))
        self.assertEqual(told, ((2, 1), [(0, 2)]))

    def test_the_same_row_again(self):
        self.assertEqual(mended(cyclic(3), (0, 1, 2), 0, 0, cyclic(3)[0][0]), ((0, 1, 2), [(0, 0)]))
        # 2 of the others comes in ahead of 0 of the ones, and all turn until 0 has its best.
        steps = [(1, 2), (2, 0), (1, 1), (2, 2), (0, 0)]
        self.assertEqual(mended(cyclic(3), (2, 0, 1), 0, 0, cyclic(3)[0][0]), ((0, 1, 2), steps))


class OneOfTheOthers(unittest.TestCase):
    def test_who_was_alone_and_stays_so(self):
        self.assertEqual(mended(AHEAD_IS_ALONE, (0, 1), 1, 2, ((1,), (0,))), ((0, 1), []))
        self.assertEqual(mended(AHEAD_IS_ALONE, (0, 1), 1, 2, ()), ((0, 1), []))

    def test_who_was_alone_and_comes_in(self):
        book = ((((1,), (0,)), ((0,), (1,))), (((0,), (1,)), ()))
        self.assertEqual(mended(book, (0, -1), 1, 1, ROW), ((1, 0), [(0, 1), (1, 0)]))

    def test_whom_it_had_comes_in_ahead_of_it(self):
        # 1 of the ones takes 1 of the others from 0 of the ones, who finds nobody but who waits.
        told = mended(UNLIKE, (1, 0, -1), 1, 0, ((2,), (0, 1)))
        self.assertEqual(told, ((-1, 1, 0), [(1, 1), (2, 0)]))

    def test_whom_it_had_stays_alone(self):
        told = mended(SCARCE, (1, -1, 0), 1, 1, ((2,), (1,), (0,)))
        self.assertEqual(told, ((-1, 1, 0), [(1, 1)]))

    def test_without_groups(self):
        self.assertEqual(mended(UNLIKE, (1, 0, -1), 1, 0, ()), ((-1, 1, -1), [(1, 1)]))
        self.assertEqual(mended((ONE, ONE), (0,), 1, 0, ()), ((-1,), []))

    def test_the_same_row_again(self):
        self.assertEqual(mended(cyclic(3), (2, 0, 1), 1, 0, cyclic(3)[1][0]), ((2, 0, 1), [(1, 0)]))
        steps = [(0, 1), (1, 2), (2, 1), (0, 2), (1, 0)]
        self.assertEqual(mended(cyclic(3), (0, 1, 2), 1, 0, cyclic(3)[1][0]), ((2, 0, 1), steps))


class AllSteps(unittest.TestCase):
    def test_as_the_words_tell(self):
        long = waited = 0
        for change in many_changes():
            book, pairing, side, number, row = change
            with self.subTest(change=change):
                told = mended(*change)
                slow = SlowMending(with_row(book, side, number, row), pairing)
                self.assertEqual(told, slow.mend((side, number)))
                self.assert_kinds(told)
                long += len(told[1]) > 3
                waited += len(told[1]) > 1 and number != told[1][0][side]
        self.assertGreater(long, 50)
        self.assertGreater(waited, 50)

    def assert_kinds(self, told):
        self.assertEqual([type(part) for part in told], [tuple, list])
        self.assertTrue(all(type(step) is tuple for step in told[1]))

    def test_each_step_breaks_the_pairing_ahead_of_it_and_the_last_is_good(self):
        for change in many_changes():
            with self.subTest(change=change):
                self.assert_sound(*change)

    def assert_sound(self, book, pairing, side, number, row):
        new = with_row(book, side, number, row)
        last, steps = mended(book, pairing, side, number, row)
        at = list(pairing)
        for i, j in enumerate(pairing):
            if (i, j)[side] == number:
                at[i] = -1
        for i, j in steps:
            self.assertIn((i, j), slow_breakers(new, at))
            at = [-1 if held == j else held for held in at]
            at[i] = j
        self.assertEqual(tuple(at), last)
        self.assertEqual(slow_breakers(new, last), [])

    def test_each_book_of_two_a_side_and_each_row(self):
        rows = all_rows()
        for ones in itertools.product(rows, repeat=2):
            for others in itertools.product(rows[::2], repeat=2):
                book = (ones, others)
                for pairing, side in itertools.product(good_pairings(book), (0, 1)):
                    for number, row in itertools.product((0, 1), rows):
                        slow = SlowMending(with_row(book, side, number, row), pairing)
                        told = mended(book, pairing, side, number, row)
                        self.assertEqual(told, slow.mend((side, number)), (book, pairing, side, number, row))

    def test_an_order_within_a_group_is_the_same_row(self):
        for book, good in with_good_ones()[:60]:
            for pairing, side in itertools.product(good, (0, 1)):
                for number, row in enumerate(book[side]):
                    single = tuple((k,) for group in row for k in group)
                    told = mended(book, pairing, side, number, row)
                    self.assertEqual(mended(book, pairing, side, number, single), told)


class Refusals(Refusing):
    def test_rows_with_which_the_book_would_be_none(self):
        for name, row in BAD_ROWS.items():
            before = copy.deepcopy(row)
            for side, number in itertools.product((0, 1), range(4)):
                with self.subTest(name, side=side, number=number):
                    self.refused(BadBook, mended, BLOCKS, BEST, side, number, row)
                    self.refused(BadBook, mended, BLOCKS, BROKEN, side, number, row)
                    self.assertEqual(row, before)

    def test_such_rows_ahead_of_pairings_that_are_none(self):
        for row, pairing in itertools.product(BAD_ROWS.values(), BAD_PAIRINGS.values()):
            for side in (0, 1):
                with self.subTest(row=row, pairing=pairing, side=side):
                    self.refused(BadBook, mended, BLOCKS, pairing, side, 1, row)

    def test_a_row_is_one_of_its_side(self):
        # There are three of the ones and two of the others.
        self.refused(BadBook, mended, UNLIKE, (1, 0, -1), 0, 0, ((2,),))
        self.assertEqual(mended(UNLIKE, (1, 0, -1), 1, 0, ((2,),)), ((-1, 1, 0), [(1, 1), (2, 0)]))
        self.refused(BadBook, mended, UNLIKE, (1, 0, -1), 1, 0, ((3,),))

    def test_books_that_are_none_ahead_of_all_else(self):
        for name, book in BAD_BOOKS.items():
            before = copy.deepcopy(book)
            for side, pairing, row in itertools.product((0, 1), ((-1,), [0]), (ROW, (), None)):
                with self.subTest(name, side=side, pairing=pairing, row=row):
                    self.refused(BadBook, mended, book, pairing, side, 0, row)
                    self.assertEqual(book, before)

    def test_a_book_that_only_the_new_row_would_mend(self):
        self.refused(BadBook, mended, ((((1,),),), ONE), (0,), 0, 0, ROW)
        self.refused(BadBook, mended, (ONE, ([],)), (0,), 1, 0, ROW)

    def test_pairings_that_are_none(self):
        for name, pairing in BAD_PAIRINGS.items():
            before = copy.deepcopy(pairing)
            for side in (0, 1):
                for row in ((), ROW, BLOCKS[side][0]):
                    with self.subTest(name, side=side, row=row):
                        self.refused(BadPairing, mended, BLOCKS, pairing, side, 0, row)
                        self.assertEqual(pairing, before)

    def test_a_pairing_is_one_by_the_book_as_it_was(self):
        # The new row alone would let the two be paired.
        self.refused(BadPairing, mended, (((),), ONE), (0,), 0, 0, ROW)
        self.refused(BadPairing, mended, (ONE, ((),)), (0,), 1, 0, ROW)
        self.assertEqual(mended((((),), ONE), (-1,), 0, 0, ROW), ((0,), [(0, 0)]))
        self.assertEqual(mended((ONE, ((),)), (-1,), 1, 0, ROW), ((0,), [(0, 0)]))

    def test_not_good(self):
        for pairing in all_pairings(BLOCKS):
            if slow_breakers(BLOCKS, pairing):
                for side, number in itertools.product((0, 1), range(4)):
                    with self.subTest(pairing=pairing, side=side, number=number):
                        self.refused(NotGood, mended, BLOCKS, pairing, side, number, BLOCKS[side][number])

    def test_good_by_the_book_as_it_was(self):
        # By the new row nobody would break it any more, by the one as it was two would.
        for side in (0, 1):
            self.refused(NotGood, mended, (ONE, ONE), (-1,), side, 0, ())
        self.refused(NotGood, mended, BLOCKS, (-1, 1, 2, 3), 0, 0, ())
        # By the new row two would break it, by the one as it was nobody.
        self.assertEqual(mended(AHEAD_IS_ALONE, (0, 1), 0, 0, ((2,), (0,)))[0], (2, 1))


class Given(unittest.TestCase):
    def test_what_is_handed_in_stays_as_it_was(self):
        for pairing, side in itertools.product((BEST, LEFT, WORST), (0, 1)):
            handed = (BLOCKS, pairing, side, 2, ((0, 3), (2,)))
            before = copy.deepcopy(handed)
            mended(*handed)[1].clear()
            self.assertEqual(handed, before)

    def test_a_new_list_each_time(self):
        for side, pairing in ((0, (2, 0, 1)), (1, (0, 1, 2))):
            handed = (cyclic(3), pairing, side, 0, cyclic(3)[side][0])
            before = copy.deepcopy(mended(*handed))
            steps = mended(*handed)[1]
            steps.reverse()
            steps.append(None)
            self.assertEqual(mended(*handed), before)

    def test_a_number_of_nobody_changes_nothing(self):
        for side, number in itertools.product((0, 1), (-1, -4, 4, 9)):
            self.assertEqual(mended(BLOCKS, LEFT, side, number, ()), (LEFT, []))


if __name__ == "__main__":
    unittest.main()
