"""Asking by a side, and the good pairing behind all asks."""

from pairlattice.pairings import ALONE, pairing_by, rather
from pairlattice.wishes import check_book, orders


def asks(book, side):
    """Tell all asks by a side, in order, as (asker, asked, alone)."""
    told, _ = asked_by(book, side)
    return told


def best_for(book, side):
    """Tell the good pairing that is the best of all for each of a side."""
    _, holders = asked_by(book, side)
    return pairing_by(book, 1 - side, holders)


def asked_by(book, side):
    """Tell all asks by a side, and whom each of the other side has behind them."""
    check_book(book)
    own = orders(book, side)
    across = orders(book, 1 - side)
    places = [0] * len(own)
    holders = [ALONE] * len(across)
    told = []
    free = still_asking(own, places, holders)
    while free:
        asker = free[0]
        asked = own[asker][places[asker]]
        places[asker] += 1
        alone = asker
        if rather(across[asked], asker, holders[asked]):
            alone = holders[asked]
            holders[asked] = asker
        told.append((asker, asked, alone))
        free = still_asking(own, places, holders)
    return told, holders


def still_asking(own, places, holders):
    """Tell who is alone and has not asked all of its order, ascending."""
    return [
        number
        for number, row in enumerate(own)
        if number not in holders and places[number] < len(row)
    ]
