"""Mending a good pairing where somebody's wishes have changed."""

from pairlattice.pairings import ALONE, check_good, held_by, pairing_by, rather, seen_across
from pairlattice.wishes import check_book, orders


def mended(book, pairing, side, number, row):
    """Tell a good pairing by a new row for one of a side, and the pairs made on the way."""
    check_book(book)
    renewed = with_row(book, side, number, row)
    check_book(renewed)
    check_good(book, pairing)
    if not 0 <= number < len(book[side]):
        # Nobody has the row, so there is nothing to mend.
        return pairing, []
    own = orders(renewed, side)
    across = orders(renewed, 1 - side)
    held = held_by(book, side, pairing)
    left = held[number]
    held[number] = ALONE
    first = pairs_made(across, own, held, left, number)
    holders = seen_across(held, len(across))
    # Nobody still waits when the last one comes in.
    last = pairs_made(own, across, holders, number, ALONE)
    steps = from_ones(1 - side, first) + from_ones(side, last)
    return pairing_by(book, 1 - side, holders), steps


def with_row(book, side, number, row):
    """Tell the book in which one of a side has a new row."""
    rows = tuple([row if k == number else old for k, old in enumerate(book[side])])
    return (rows, book[1]) if side == 0 else (book[0], rows)


def pairs_made(own, across, holders, comer, waiting):
    """Let one come in, and all who are alone by it, in the holders; tell the pairs made.

    Each pair is told with the one who came in ahead. Where the comer is ALONE, nobody comes in.
    """
    made = []
    while comer != ALONE:
        found = found_by(comer, own[comer], across, holders, waiting)
        if found == ALONE:
            break
        made.append((comer, found))
        left = holders[found]
        holders[found] = comer
        comer = left
    return made


def found_by(comer, wished, across, holders, waiting):
    """Tell the first in an order who would rather have the comer and doesn't wait, or ALONE."""
    for other in wished:
        if other != waiting and rather(across[other], comer, holders[other]):
            return other
    return ALONE


def from_ones(side, made):
    """Tell pairs with the one of the ones ahead in each, where those of a side are ahead."""
    return made if side == 0 else [(i, j) for j, i in made]
