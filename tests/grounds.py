"""Grounds of each sort: all the small ones of a kind, some chosen ones, and some of 16 things."""

from itertools import product
from random import Random

HIGH = 1 << 31


def threads_small():
    """Pairs of the places and the ties."""
    found = []
    for count in range(4):
        pairs = [(near, far) for near in range(3) for far in range(3)]
        found.extend((3, list(ties)) for ties in product(pairs, repeat=count))
    source = Random(2)
    for places in (1, 2, 3, 4, 5, 20):
        for count in (4, 5, 6, 6):
            found.append((places, [(source.randrange(places), source.randrange(places)) for tie in range(count)]))
    every = [(0, 1), (2, 0), (0, 3), (1, 2), (3, 1), (2, 3)]
    found.append((4, every))
    found.append((5, [(0, 1), (1, 2), (2, 3), (3, 4), (4, 0), (1, 1)]))
    found.append((20, [(19, 0), (0, 19), (19, 18), (18, 0), (7, 7)]))
    return found


def kinds_small():
    """Pairs of the kinds and how many of each."""
    found = [([], []), ([], [0]), ([], [16, 3])]
    for count in range(5):
        for kinds in product(range(2), repeat=count):
            found.extend((list(kinds), list(most)) for most in product((0, 1, 2, 16), repeat=2))
    source = Random(3)
    for count in (5, 6, 7):
        most = [source.randrange(4) for kind in range(4)]
        found.append(([source.randrange(4) for thing in range(count)], most))
    return found


def posts_small():
    """Lists of wants."""
    sets = [[], [0], [1], [2], [0, 1], [2, 0], [1, 2], [2, 1, 0]]
    found = [list(wants) for count in range(4) for wants in product(sets, repeat=count)]
    source = Random(4)
    for count in (4, 5, 6, 6, 6, 6, 6, 6):
        posts = source.sample(range(31), count - 1)
        found.append([source.sample(posts, source.randrange(1, 4)) for thing in range(count)])
    found.append([[0, 30], [30], [0, 1], [1]])
    found.append([[5, 6], [6, 7], [7, 8], [8, 9], [5]])
    return found


def bits_small():
    """Lists of rows."""
    found = [list(rows) for count in range(4) for rows in product(range(8), repeat=count)]
    source = Random(5)
    for count in (4, 5, 6, 6):
        found.append([source.randrange(1 << 32) for thing in range(count)])
        found.append([source.randrange(16) << 28 for thing in range(count)])
    found.append([HIGH, HIGH | 1, 1, 0, HIGH])
    found.append([3, 5, 9, 3 ^ 5 ^ 9, 6, 3])
    found.append([0xFFFFFFFF, 0x7FFFFFFF, HIGH, 0])
    return found


def threads_great():
    around = [(place, (place + 1) % 8) for place in range(8)]
    across = [(place, (place + 4) % 8) for place in range(4)]
    return 8, around + across + [(0, 0), (1, 0), (2, 7), (7, 2)]


def kinds_great():
    return [0, 1, 2, 3, 0, 1, 2, 0, 1, 0, 4, 4, 0, 3, 3, 2], [2, 3, 16, 0, 1]


def posts_great():
    return [[thing % 9, (thing * 5 + 3) % 9 + 20] for thing in range(12)] + [[], [0, 30], [30], [20, 0, 30]]


def bits_great():
    source = Random(6)
    few = [source.randrange(1 << 32) for row in range(7)]
    sums = [few[0] ^ few[1], few[2] ^ few[3] ^ few[4], few[5] ^ few[6], few[0] ^ few[6]]
    return few + sums + [0, few[2], HIGH, HIGH | 1, 1]
