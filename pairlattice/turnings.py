"""Turnings at a good pairing, and what is behind them."""

from pairlattice.errors import NoTurning
from pairlattice.pairings import ALONE, check_good, rather, seen_across
from pairlattice.wishes import is_number, orders


def turnings(book, pairing):
    """Tell the turnings at a good pairing, ascending."""
    check_good(book, pairing)
    return rings_at(orders(book, 0), orders(book, 1), pairing)


def turned(book, pairing, turning):
    """Tell the pairing behind a turning at a good pairing."""
    found = turnings(book, pairing)
    # To Python True is 1, so that looking it up alone would take it for a number.
    if not is_ring(turning) or turning not in found:
        raise NoTurning("there is no such turning at this pairing")
    return behind(pairing, turning)


def is_ring(value):
    """Tell if a value is written as a turning is: a tuple of pairs of numbers."""
    return isinstance(value, tuple) and all([is_pair(item) for item in value])


def is_pair(value):
    """Tell if a value is a tuple of two whole numbers."""
    return isinstance(value, tuple) and len(value) == 2 and is_number(value[0]) and is_number(value[1])


def behind(pairing, ring):
    """Tell the pairing in which each of a ring has what the one that follows it had."""
    held = list(pairing)
    for pair, following in zip(ring, ring[1:] + ring[:1]):
        held[pair[0]] = following[1]
    return tuple(held)


def rings_at(ones, others, pairing):
    """Tell the turnings at a good pairing by the orders of both sides, ascending."""
    holders = seen_across(pairing, len(others))
    after = [follower(row, i, pairing[i], others, holders) for i, row in enumerate(ones)]
    rings = [ring_from(start, after) for start in range(len(ones))]
    # Each ring begins with another number, so this order is ascending as it is.
    return [tuple([(i, pairing[i]) for i in ring]) for ring in rings if ring]


def follower(row, i, own, others, holders):
    """Tell who has the next of one of the ones, or ALONE where nobody does."""
    if own == ALONE:
        return ALONE
    for j in row[row.index(own) + 1:]:
        if rather(others[j], i, holders[j]):
            return holders[j]
    return ALONE


def ring_from(start, after):
    """Tell the ring whose least number is this one, or an empty list where there is none."""
    ring = [start]
    at = after[start]
    # ALONE is less than any number, so it ends this too.
    while at > start and at not in ring:
        ring.append(at)
        at = after[at]
    return ring if at == start else []
