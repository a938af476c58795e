"""Pairings, who would break them, and the better of two good ones."""

from pairlattice.errors import BadPairing, NotGood
from pairlattice.wishes import check_book, is_number, orders

ALONE = -1


def breakers(book, pairing):
    """Tell all pairs that would break a pairing, ascending."""
    check_pairing(book, pairing)
    ones = orders(book, 0)
    others = orders(book, 1)
    holders = seen_across(pairing, len(others))
    return [
        (i, j)
        for i in range(len(ones))
        for j in range(len(others))
        if rather(ones[i], j, pairing[i]) and rather(others[j], i, holders[j])
    ]


def is_good(book, pairing):
    """Tell if no two would break a pairing."""
    return not breakers(book, pairing)


def better(book, side, one, other):
    """Tell the good pairing in which each of a side has the preferred of its two."""
    check_good(book, one)
    check_good(book, other)
    held = preferred(orders(book, side), held_by(book, side, one), held_by(book, side, other))
    return pairing_by(book, side, held)


def preferred(wished, firsts, seconds):
    """Tell for each order whichever of its two it would rather have."""
    return [
        second if rather(row, second, first) else first
        for row, first, second in zip(wished, firsts, seconds)
    ]


def rather(row, new, held):
    """Tell if someone with this order would rather have a new one than what it has."""
    if new not in row:
        return False
    return held == ALONE or row.index(new) < row.index(held)


def seen_across(held, many):
    """Tell what each of the other side has, by what each of this side has."""
    holders = [ALONE] * many
    for number, partner in enumerate(held):
        if partner != ALONE:
            holders[partner] = number
    return holders


def held_by(book, side, pairing):
    """Tell what each of a side has in a pairing."""
    return list(pairing) if side == 0 else seen_across(pairing, len(book[1]))


def pairing_by(book, side, held):
    """Tell the pairing in which each of a side has what is told for it."""
    return tuple(held) if side == 0 else tuple(seen_across(held, len(book[0])))


def check_good(book, pairing):
    """Refuse what is no pairing of the book, or is not good."""
    if not is_good(book, pairing):
        raise NotGood("two would rather have one another")


def check_pairing(book, pairing):
    """Refuse what is no book, then what is no pairing of it."""
    check_book(book)
    wished = orders(book, 0)
    if not isinstance(pairing, tuple) or len(pairing) != len(wished):
        raise BadPairing("a pairing is a tuple with a number for each of the ones")
    for row, held in zip(wished, pairing):
        check_held(row, held)
    paired = [held for held in pairing if held != ALONE]
    if len(set(paired)) != len(paired):
        raise BadPairing("one of the others is paired twice")


def check_held(row, held):
    """Refuse what someone with this order can't have."""
    if not is_number(held):
        raise BadPairing("a pairing has whole numbers only")
    if held != ALONE and held not in row:
        raise BadPairing("these two may not be paired")
