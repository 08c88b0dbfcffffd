"""The words of points 2 to 7, said as directly as possible, for comparison with the program."""

from itertools import combinations, product


def comes_back(ties, start, place, left):
    """Whether a walk from the place over some of the ties left, each at most once, ends at the start."""
    for thing in left:
        others = [other for other in left if other != thing]
        for here, there in (ties[thing], ties[thing][::-1]):
            if here == place and (there == start or comes_back(ties, start, there, others)):
                return True
    return False


def threads_free(places, ties, some):
    return not any(comes_back(ties, place, place, list(some)) for place in range(places))


def kinds_free(kinds, most, some):
    return all([kinds[thing] for thing in some].count(kind) <= most[kind] for kind in range(len(most)))


def posts_free(wants, some):
    return any(len(set(given)) == len(given) for given in product(*[wants[thing] for thing in some]))


def bits_free(rows, some):
    for count in range(1, len(some) + 1):
        for taken in combinations(some, count):
            if not any(sum(rows[thing] >> bit & 1 for thing in taken) & 1 for bit in range(32)):
                return False
    return True


def sets_of(many):
    """Every set of a ground, as rising lists."""
    return [list(some) for count in range(many + 1) for some in combinations(range(many), count)]


def orders(some):
    """A set in rising, falling and mixed order."""
    rising = sorted(some)
    mixed = rising[1::2] + rising[::2]
    return [rising, rising[::-1], mixed, mixed[::-1]]


def mask_of(some):
    return sum(1 << thing for thing in some)


def set_of(mask):
    return [thing for thing in range(mask.bit_length()) if mask >> thing & 1]


def free_table(rule):
    """For each set of the ground, by its mask, whether it is free."""
    return [rule.free(set_of(mask)) for mask in range(1 << rule.many())]


def rank_table(free):
    """For each set, by its mask, the count of a greatest free set in it."""
    ranks = []
    for mask, is_free in enumerate(free):
        if is_free:
            ranks.append(mask.bit_count())
        else:
            ranks.append(max(ranks[mask & ~(1 << thing)] for thing in set_of(mask)))
    return ranks


def reach_of(ranks, many, mask):
    return [thing for thing in range(many) if ranks[mask | 1 << thing] == ranks[mask]]


def is_ring(free, mask):
    return not free[mask] and all(free[mask & ~(1 << thing)] for thing in set_of(mask))


def rings_in(free, mask):
    """Every ring that lies in the set, as rising lists."""
    found = []
    part = mask
    while part:
        if is_ring(free, part):
            found.append(set_of(part))
        part = (part - 1) & mask
    return found
