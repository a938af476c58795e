"""More books for the tests, and slow answers about asks and turnings from the document's words."""

import functools
import itertools
import random

from tests.books import (
    BLOCKS, UNLIKE, blocks, cyclic, good_pairings, held_by, made_book, made_books, slow_order, wish,
)

# All of the ones wish alike, each is asked by more than one, 1 of the ones is left alone.
SCARCE = (
    (((0, 1),), ((0, 1),), ((0, 1),)),
    (((2,), (1,), (0,)), ((0, 1, 2),)),
)

# 0 of the ones would next have 2 of the others, who is alone: so there is no ring of 0 and 1.
AHEAD_IS_ALONE = (
    (((0,), (2,), (1,)), ((1,), (0,))),
    (((1,), (0,)), ((0,), (1,)), ((0,),)),
)

# A ring that does not go up: from 0 to 2, then to 1, then to 0.
FALLING_RING = (
    (((0,), (2,), (1,)), ((1,), (0,), (2,)), ((2,), (1,), (0,))),
    (((1,), (2,), (0,)), ((2,), (0,), (1,)), ((0,), (1,), (2,))),
)

# 0 of the ones would next have what 1 has, but the ring is of 1 and 2 alone.
AHEAD_OF_A_RING = (
    (((0,), (1,), (2,)), ((1,), (2,)), ((2,), (1,))),
    (((0,),), ((2,), (0,), (1,)), ((1,), (2,), (0,))),
)


def doubled(times):
    """A book of 1, 2, 4 or 8 a side with 1, 2, 10 or 268 good pairings, all rows in full."""
    ones, others = [[0]], [[0]]
    for _ in range(times):
        many = len(ones)
        up = [[k + many for k in row] for row in ones]
        back = [[k + many for k in row] for row in others]
        ones = [a + b for a, b in zip(ones, up)] + [b + a for a, b in zip(ones, up)]
        others = [b + a for a, b in zip(others, back)] + [a + b for a, b in zip(others, back)]
    return tuple(tuple(tuple((k,) for k in row) for row in rows) for rows in (ones, others))


def opposed_book(seed, ones, others, left_out):
    """A book in which whoever is wished much wishes little: it has more turnings than most."""
    chance = random.Random(seed)
    rows = [chance.sample(range(others), others) for _ in range(ones)]
    back = [
        sorted(range(ones), key=lambda i: (-rows[i].index(j), chance.random()))
        for j in range(others)
    ]
    for row in rows + back:
        for number in list(row):
            if chance.random() < left_out:
                row.remove(number)
    return tuple(tuple(grouped(chance, row) for row in side) for side in (rows, back))


def padded(book, ones, others):
    """A book with more on either side, who wish everybody, and whom everybody wishes last."""
    counts = len(book[0]) + ones, len(book[1]) + others
    sides = []
    for rows, across, count in zip(book, reversed(counts), counts):
        known = max(len(row) for row in rows)
        row = tuple((k,) for k in range(across))
        sides.append(tuple(old + row[known:] for old in rows) + (row,) * (count - len(rows)))
    return tuple(sides)


def grouped(chance, row):
    """The same wishes in groups, some of two or more where these go up as they stand."""
    groups = []
    for number in row:
        if groups and groups[-1][-1] < number and chance.random() < 0.5:
            groups[-1] += (number,)
        else:
            groups.append((number,))
    return tuple(groups)


def small_books():
    """Books that can be walked one by one: with few turnings and with many."""
    return [
        BLOCKS, UNLIKE, SCARCE, AHEAD_IS_ALONE, FALLING_RING, AHEAD_OF_A_RING,
        blocks(1), blocks(3), cyclic(2), cyclic(3), cyclic(4), doubled(0), doubled(1), doubled(2),
        padded(cyclic(4), 1, 0), padded(cyclic(3), 0, 2), padded(doubled(2), 1, 0), padded(doubled(2), 0, 1),
        *made_books(3),
        *[made_book(seed, 4, 4, True) for seed in range(6)],
        *[opposed_book(seed, 4, 3 + seed % 3, 0) for seed in range(12)],
        *[opposed_book(seed, 4, 4, 0.15) for seed in range(40, 56)],
        *[opposed_book(seed, 5, 4, 0.3) for seed in range(70, 76)],
        *[opposed_book(seed, 5, 5, 0.1) for seed in range(80, 84)],
    ]


@functools.cache
def with_good_ones():
    """Small books, each with all its good pairings walked one by one."""
    return [(book, good_pairings(book)) for book in small_books()]


@functools.cache
def good_of_eight():
    """All good pairings of doubled(3), in which everybody wishes everybody: nobody is alone."""
    ones, others = ([[group[0] for group in row] for row in rows] for rows in doubled(3))
    place = [[row.index(j) for j in range(8)] for row in ones]
    back = [[row.index(i) for i in range(8)] for row in others]
    pairs = list(itertools.permutations(range(8), 2))

    def broken(told):
        return any(
            place[i][told[k]] < place[i][told[i]] and back[told[k]][i] < back[told[k]][k]
            for i, k in pairs
        )

    return [told for told in itertools.permutations(range(8)) if not broken(told)]


def slow_asks(book, side):
    """All asks by a side."""
    wanted = [slow_order(book, side, number) for number in range(len(book[side]))]
    has, told = {}, []
    while True:
        free = [k for k in range(len(wanted)) if wanted[k] and k not in has.values()]
        if not free:
            return told
        asker = min(free)
        asked = wanted[asker].pop(0)
        row = book[1 - side][asked]
        if asked not in has:
            has[asked], alone = asker, -1
        elif wish(row, asker) < wish(row, has[asked]):
            has[asked], alone = asker, has[asked]
        else:
            alone = asker
        told.append((asker, asked, alone))


def behind_asks(book, side, told):
    """The pairing behind some asks."""
    has = {}
    for asker, asked, alone in told:
        if alone != asker:
            has[asked] = asker
    pairs = {(asker, asked) if side == 0 else (asked, asker) for asked, asker in has.items()}
    return tuple(max([j for i, j in pairs if i == one], default=-1) for one in range(len(book[0])))


def slow_next(book, pairing, i):
    """The next of one of the ones: whom, and who has that one; or None."""
    if pairing[i] == -1:
        return None
    for j in slow_order(book, 0, i):
        if wish(book[0][i], j) <= wish(book[0][i], pairing[i]):
            continue
        has = held_by(1, j, pairing)
        if has == -1:
            return None
        if wish(book[1][j], i) < wish(book[1][j], has):
            return j
    return None


def slow_turnings(book, pairing):
    """The turnings at a good pairing, by trying each ring that there could be."""
    nexts = [slow_next(book, pairing, i) for i in range(len(pairing))]
    found = []
    for size in range(2, len(pairing) + 1):
        for ring in itertools.permutations(range(len(pairing)), size):
            follow = ring[1:] + ring[:1]
            if ring[0] != min(ring) or None in [nexts[i] for i in ring]:
                continue
            if all(nexts[i] == pairing[k] for i, k in zip(ring, follow)):
                found.append(tuple((i, pairing[i]) for i in ring))
    return sorted(found)


def none_better(book, first, second):
    """Tell if none of the ones would rather have what it has in the second of two good pairings."""
    return all(
        a == b or wish(row, a) < wish(row, b) for row, a, b in zip(book[0], first, second)
    )


def just_behind(book, good, pairing):
    """The good pairings that are worse for the ones than this one, with no other between."""
    worse = [other for other in good if other != pairing and none_better(book, pairing, other)]
    return [
        other for other in worse
        if not any(third != other and none_better(book, third, other) for third in worse)
    ]


def ways(book, turnings, turned, first):
    """Each way to do turnings one by one from a good pairing: all steps as (pairing, those done)."""
    waiting = [[(first, [])]]
    while waiting:
        way = waiting.pop()
        pairing, done = way[-1]
        rings = turnings(book, pairing)
        if not rings:
            yield way
        waiting += [way + [(turned(book, pairing, ring), done + [ring])] for ring in rings]
