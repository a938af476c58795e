"""All good pairings of a book, told by the turnings that lead to them."""

from pairlattice.asking import best_for
from pairlattice.errors import NotClosed
from pairlattice.pairings import check_good
from pairlattice.turnings import behind, rings_at
from pairlattice.wishes import check_book, is_number, orders


class Lattice:
    """All good pairings of a book, and all turnings, numbered as they ascend."""

    def __init__(self, book):
        check_book(book)
        leading, onward = walked(book)
        self.book = book
        self.rings = sorted(leading[best_for(book, 1)])
        numbers = {ring: number for number, ring in enumerate(self.rings)}
        self.parts = {good: sorted([numbers[ring] for ring in rings]) for good, rings in leading.items()}
        self.good_by_part = {tuple(part): good for good, part in self.parts.items()}
        self.needed = {number: common(parts_at(ring, onward, self.parts)) for ring, number in numbers.items()}

    def turnings(self):
        """Tell all turnings, ascending."""
        return list(self.rings)

    def ahead(self, number):
        """Tell the numbers of the turnings that stand ahead of one, ascending."""
        return list(self.needed.get(number, []))

    def pairings(self):
        """Tell all good pairings, ascending."""
        return sorted(self.parts)

    def part(self, pairing):
        """Tell the numbers of the turnings that lead to a good pairing, ascending."""
        check_good(self.book, pairing)
        return list(self.parts[pairing])

    def pairing(self, part):
        """Tell the good pairing whose part is a closed list."""
        if not isinstance(part, list) or not all([is_number(number) for number in part]):
            raise NotClosed("a closed list is a list of numbers of turnings")
        # The closed lists are just the parts, so that what is no part is not closed.
        if tuple(part) not in self.good_by_part:
            raise NotClosed("these are not all that stand ahead of one another, ascending")
        return self.good_by_part[tuple(part)]


def walked(book):
    """Tell for each good pairing the turnings that lead to it, and those at it."""
    ones = orders(book, 0)
    others = orders(book, 1)
    first = best_for(book, 0)
    leading = {first: []}
    onward = {}
    waiting = [first]
    while waiting:
        pairing = waiting.pop()
        rings = rings_at(ones, others, pairing)
        onward[pairing] = rings
        for ring in rings:
            found = behind(pairing, ring)
            # It is behind the same turnings on all ways, so the first way tells them.
            if found not in leading:
                leading[found] = [*leading[pairing], ring]
                waiting.append(found)
    return leading, onward


def parts_at(ring, onward, parts):
    """Tell the part of each good pairing at which a turning may be done."""
    return [parts[pairing] for pairing, rings in onward.items() if ring in rings]


def common(parts):
    """Tell the numbers that stand in all of some parts, ascending."""
    return [number for number in parts[0] if all([number in part for part in parts])]
