"""Books for the tests, and slow answers found straight from the document's words."""

import itertools
import random

# Two blocks of two: each may be turned without the other, so neither of
# (1, 0, 2, 3) and (0, 1, 3, 2) is better for all of a side.
BLOCKS = (
    (((0,), (1,)), ((1,), (0,)), ((2,), (3,)), ((3,), (2,))),
    (((1,), (0,)), ((0,), (1,)), ((3,), (2,)), ((2,), (3,))),
)

# Its good pairings: nothing turned, one block of the two, or both.
BEST, LEFT, RIGHT, WORST = (0, 1, 2, 3), (1, 0, 2, 3), (0, 1, 3, 2), (1, 0, 3, 2)

# A pairing of BLOCKS that isn't good: 0 and 1 of the ones are alone.
BROKEN = (-1, -1, 2, 3)

# More of the ones than of the others, ties, and wishes that are not returned:
# 0 and 1 of the ones both want 1 of the others, 2 is not wished by anybody.
UNLIKE = (
    (((1,), (0,)), ((0, 1),), ((0,), (1,))),
    (((0, 1),), ((1,), (0,))),
)

ROW = ((0,),)
ONE = (ROW,)

BAD_BOOKS = {
    "None": None,
    "a number": 7,
    "True": True,
    "a text": "book",
    "a dict": {0: ONE, 1: ONE},
    "a list": [ONE, ONE],
    "nothing": (),
    "one side": (ONE,),
    "three sides": (ONE, ONE, ONE),
    "a first side that is a list": ([ROW], ONE),
    "a second side that is a list": (ONE, [ROW]),
    "a side that is None": (ONE, None),
    "a side that is a text": ("a", ONE),
    "a side that is a number": (1, ONE),
    "no ones": ((), ONE),
    "no others": (ONE, ()),
    "nobody at all": ((), ()),
    "nine ones": ((ROW,) * 9, ONE),
    "nine others": (ONE, (ROW,) * 9),
    "a row of the ones that is a list": (([(0,)],), ONE),
    "a row of the others that is a list": (ONE, ([(0,)],)),
    "the last row is a list": ((ROW, ROW, [(0,)]), ONE),
    "an empty row that is a list": (ONE, ([],)),
    "a row that is None": ((None,), ONE),
    "a row that is a number": ((0,), ONE),
    "a row that is a text": (("",), ONE),
    "a row that is a dict": (({},), ONE),
    "an empty group": ((((),),), ONE),
    "an empty group of the others": (ONE, (((),),)),
    "an empty group behind another": (ONE, (((0,), ()),)),
    "a group that is a number": (((0,),), ONE),
    "a group that is a number, of the others": (ONE, ((0,),)),
    "a group that is a list": ((([0],),), ONE),
    "a group that is a text": ((("0",),), ONE),
    "a group that is None": (ONE, ((None,),)),
    "a group that is True": (ONE, ((True,),)),
    "a number twice in a group": ((((0, 0),),), ONE),
    "a number twice in a row": ((((0,), (0,)),), ONE),
    "a number twice, not side by side": ((((0, 1), (2,), (1,)),), (ROW, ROW, ROW)),
    "a number twice in a row of the others": ((ROW, ROW), (((1,), (0, 1)),)),
    "a number of nobody": ((((1,),),), ONE),
    "a number of nobody, of the others": (ONE, (((1,),),)),
    "a number that only its own side has": ((((1,),), ROW), ONE),
    "a number of nobody, in the last row": ((ROW, ROW, ((2,),)), (ROW, ROW)),
    "a number below nought": ((((-1,),),), ONE),
    "a number below nought, of the others": (ONE, (((-1, 0),),)),
    "True": ((((True,),),), (ROW, ROW)),
    "True behind 0": ((((0, True),),), (ROW, ROW)),
    "False": (ONE, (((False,),),)),
    "None in a group": ((((None,),),), ONE),
    "a text in a group": (((("0",),),), ONE),
    "a part of a number": ((((0.0,),),), ONE),
    "a group in a group": (((((0,),),),), ONE),
    "a group that falls": ((((1, 0),),), (ROW, ROW)),
    "a group that falls at its end": ((((0, 2, 1),),), (ROW, ROW, ROW)),
    "a group of the others that falls": ((ROW, ROW), (((1, 0),),)),
}

# None of these is a pairing of BLOCKS.
BAD_PAIRINGS = {
    "a list": [0, 1, 2, 3],
    "None": None,
    "True": True,
    "a number": 0,
    "a text": "0123",
    "bytes": b"\0\1\2\3",
    "a dict": {0: 0, 1: 1, 2: 2, 3: 3},
    "nothing": (),
    "one fewer": (0, 1, 2),
    "one more": (0, 1, 2, 3, -1),
    "below -1": (0, 1, 2, -2),
    "far below -1": (-4, 1, 2, 3),
    "just beyond the others": (0, 1, 2, 4),
    "far beyond the others": (99, 1, 2, 3),
    "True in it": (0, True, 2, 3),
    "False in it": (False, 1, 2, 3),
    "None in it": (0, 1, 2, None),
    "a text in it": ("0", 1, 2, 3),
    "a part of a number in it": (0.0, 1, 2, 3),
    "less than all in it": (-1.0, 1, 2, 3),
    "a tuple in it": ((0,), 1, 2, 3),
    "a list in it": ([0], 1, 2, 3),
    "one of the others twice": (0, 0, 2, 3),
    "one of the others twice, the rest alone": (-1, -1, 3, 3),
    "two who may not be paired": (2, 1, -1, 3),
}


def cyclic(many):
    """A book in which the ones are best served just where the others are worst."""
    ones = tuple(tuple(((i + k) % many,) for k in range(many)) for i in range(many))
    others = tuple(tuple(((j + k) % many,) for k in range(1, many + 1)) for j in range(many))
    return ones, others


def blocks(many):
    """So many blocks of two as in BLOCKS: each may be turned without the others."""
    ones, others = [], []
    for low in range(0, 2 * many, 2):
        up, down = ((low,), (low + 1,)), ((low + 1,), (low,))
        ones += [up, down]
        others += [down, up]
    return tuple(ones), tuple(others)


def made_row(chance, many, named):
    """A row that names so many of the other side, in groups of one and of more."""
    numbers = chance.sample(range(many), named)
    groups = []
    while numbers:
        size = chance.choice((1, 1, 1, 2, 3))
        groups.append(tuple(sorted(numbers[:size])))
        numbers = numbers[size:]
    return tuple(groups)


def made_book(seed, ones, others, full):
    """A book of these sizes, the same for the same seed; a full one leaves nobody out."""
    chance = random.Random(seed)

    def side(many, across):
        sizes = [across if full else chance.randint(0, across) for _ in range(many)]
        return tuple(made_row(chance, across, size) for size in sizes)

    return side(ones, others), side(others, ones)


def made_books(most):
    """Books of all sizes up to a most one, one with and one without numbers left out."""
    return [
        made_book(ones * 10 + others, ones, others, full)
        for ones in range(1, most + 1)
        for others in range(1, most + 1)
        for full in (False, True)
    ]


def wish(row, number):
    """Where a row names a number, as something to compare, or None."""
    for place, group in enumerate(row):
        if number in group:
            return place, number
    return None


def slow_order(book, side, number):
    """Somebody's order, by sorting those who may be paired with it."""
    row, rows = book[side][number], book[1 - side]
    both = [k for k in range(len(rows)) if wish(row, k) and wish(rows[k], number)]
    return sorted(both, key=lambda k: wish(row, k))


def slow_breakers(book, pairing):
    """The breakers of a pairing, by asking each two."""
    found = []
    for i, row in enumerate(book[0]):
        for j, back in enumerate(book[1]):
            own = pairing[i]
            has = pairing.index(j) if j in pairing else -1
            if not wish(row, j) or not wish(back, i) or own == j:
                continue
            if own != -1 and wish(row, own) < wish(row, j):
                continue
            if has != -1 and wish(back, has) < wish(back, i):
                continue
            found.append((i, j))
    return found


def all_pairings(book):
    """Everything that is a pairing of a book."""
    choices = [[-1, *sorted(slow_order(book, 0, i))] for i in range(len(book[0]))]
    return [
        pairing
        for pairing in itertools.product(*choices)
        if all(j == -1 or pairing.count(j) == 1 for j in pairing)
    ]


def good_pairings(book):
    """Every good pairing of a book."""
    return [pairing for pairing in all_pairings(book) if not slow_breakers(book, pairing)]


def held_by(side, number, pairing):
    """What one of a side has, or -1."""
    if side == 0:
        return pairing[number]
    return pairing.index(number) if number in pairing else -1


def slow_better(book, side, first, second):
    """The pairing in which each of a side has the preferred of its two."""
    told = [-1] * len(book[0])
    for number, row in enumerate(book[side]):
        two = [held_by(side, number, pairing) for pairing in (first, second)]
        partners = sorted((k for k in two if k != -1), key=lambda k: wish(row, k))
        for partner in partners[:1]:
            i, j = (number, partner) if side == 0 else (partner, number)
            told[i] = j
    return tuple(told)
