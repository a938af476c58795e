"""What is chosen of all good pairings: pairs that stand in them, and the cheapest ones."""

from pairlattice.lattice import Lattice
from pairlattice.pairings import ALONE
from pairlattice.wishes import orders


def sorts(book):
    """Tell the pairs in all good pairings, in some but not all, and in none, who may be paired."""
    good = [pairs_of(pairing) for pairing in Lattice(book).pairings()]
    in_all, in_some, in_none = [], [], []
    for pair in allowed_pairs(book):
        found = len([pairs for pairs in good if pair in pairs])
        if found == len(good):
            in_all.append(pair)
        elif found > 0:
            in_some.append(pair)
        else:
            in_none.append(pair)
    return in_all, in_some, in_none


def with_pair(book, i, j):
    """Tell the first good pairing that has a pair, or None where none has it."""
    for pairing in Lattice(book).pairings():
        if (i, j) in pairs_of(pairing):
            return pairing
    return None


def fairest(book):
    """Tell the least sum of all costs, and the first good pairing that has it."""
    return min([(sum(paid), pairing) for paid, pairing in priced(book)])


def gentlest(book):
    """Tell the least that the greatest cost of anybody may be, and the first good pairing with it."""
    return min([(max(paid, default=0), pairing) for paid, pairing in priced(book)])


def priced(book):
    """Tell for each good pairing what everybody pays who is paired, and the pairing."""
    good = Lattice(book).pairings()
    ones = orders(book, 0)
    others = orders(book, 1)
    return [(costs(ones, others, pairing), pairing) for pairing in good]


def costs(ones, others, pairing):
    """Tell the costs of a pairing for all who are paired, by the orders of both sides."""
    return [cost for i, j in pairs_of(pairing) for cost in (ones[i].index(j), others[j].index(i))]


def pairs_of(pairing):
    """Tell the pairs of a pairing, ascending."""
    return [(i, j) for i, j in enumerate(pairing) if j != ALONE]


def allowed_pairs(book):
    """Tell all who may be paired, of a book that has been checked, ascending."""
    return [(i, j) for i, row in enumerate(orders(book, 0)) for j in sorted(row)]
