"""Books of wishes, and everybody's order."""

from pairlattice.errors import BadBook

MOST_ROWS = 8


def order(book, side, number):
    """Tell with whom one of a side may be paired, the most wished first."""
    check_book(book)
    if not 0 <= number < len(book[side]):
        # Nobody has this number, so nobody may be paired with it.
        return []
    return order_of(book, side, number)


def orders(book, side):
    """Tell everybody's order, of one side of a book that has been checked."""
    return [order_of(book, side, number) for number in range(len(book[side]))]


def order_of(book, side, number):
    """Tell one order, of a book that has been checked."""
    rows = book[1 - side]
    return [other for other in listed(book[side][number]) if number in listed(rows[other])]


def listed(row):
    """Tell whom a row names, the most wished first."""
    # A group is ascending, which is just the order of the wishes within it.
    return [number for group in row for number in group]


def is_number(value):
    """Tell if a value is a whole number, which True and False are not."""
    return isinstance(value, int) and not isinstance(value, bool)


def check_book(book):
    """Refuse what is no book."""
    if not isinstance(book, tuple) or len(book) != 2:
        raise BadBook("a book is a tuple of two sides")
    ones, others = book
    # Rows can be judged only when it is known how many the other side has.
    check_side(ones)
    check_side(others)
    for row in ones:
        check_row(row, len(others))
    for row in others:
        check_row(row, len(ones))


def check_side(rows):
    """Refuse what is no tuple of as many rows as a side may have."""
    if not isinstance(rows, tuple):
        raise BadBook("a side is a tuple of rows")
    if not 1 <= len(rows) <= MOST_ROWS:
        raise BadBook(f"a side has one to {MOST_ROWS} rows")


def check_row(row, many):
    """Refuse what is no row of wishes among so many of the other side."""
    if not isinstance(row, tuple):
        raise BadBook("a row is a tuple of groups")
    for group in row:
        check_group(group, many)
    named = listed(row)
    if len(set(named)) != len(named):
        raise BadBook("a number stands twice in a row")


def check_group(group, many):
    """Refuse what is no group of numbers of so many of the other side."""
    if not isinstance(group, tuple) or len(group) == 0:
        raise BadBook("a group is a tuple that is not empty")
    for number in group:
        if not is_number(number) or not 0 <= number < many:
            raise BadBook("a group has numbers of the other side only")
    if list(group) != sorted(group):
        raise BadBook("a group is ascending")
