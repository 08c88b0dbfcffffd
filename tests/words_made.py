"""The words of points 9 to 11, said as directly as possible, over tables of what is free.

A table tells for each set of a ground, by its mask, whether it is free.
"""

from tests import words


def parts_of(mask):
    """Every part of a set, the set itself and the empty one too."""
    part = mask
    while part:
        yield part
        part = (part - 1) & mask
    yield 0


def wholes(free):
    most = max(mask.bit_count() for mask, is_free in enumerate(free) if is_free)
    return [mask for mask, is_free in enumerate(free) if is_free and mask.bit_count() == most]


def turned(free):
    found = wholes(free)
    return [any(not mask & whole for whole in found) for mask in range(len(free))]


def cut(free, bound):
    return [is_free and mask.bit_count() <= bound for mask, is_free in enumerate(free)]


def anew(things):
    """For each mask of things counted anew in their order, the mask that it was ahead."""
    rising = sorted(things)
    return [words.mask_of(rising[place] for place in words.set_of(mask)) for mask in range(1 << len(rising))]


def kept(free, some):
    return [free[mask] for mask in anew(some)]


def held(free, some):
    ranks = words.rank_table(free)
    base = words.mask_of(some)
    others = [thing for thing in range((len(free) - 1).bit_length()) if thing not in some]
    return [ranks[base | mask] == ranks[base] + mask.bit_count() for mask in anew(others)]


def beside(one, other):
    return [near and far for far in other for near in one]


def joined(frees):
    """Free is what is empty, for no rule; and each further rule takes any part that is free by it."""
    table = [mask == 0 for mask in range(len(frees[0]))]
    for free in frees:
        table = [any(free[part] and table[mask & ~part] for part in parts_of(mask)) for mask in range(len(free))]
    return table


def can_pack(found, times, used=0):
    """Whether so many of the whole sets found have no thing in common, with none of those used."""
    if times == 0:
        return True
    return any(can_pack(found, times - 1, used | whole) for whole in found if not used & whole)


def least_room(tables):
    """For each set, the least that the ranks of one of its parts are above the count of the part.

    The ranks of all the rules are added. By point 10 a set can be parted just where this is not below 0.
    """
    room = [sum(ranks) - mask.bit_count() for mask, ranks in enumerate(zip(*tables))]
    for thing in range((len(room) - 1).bit_length()):
        for mask in range(len(room)):
            if mask >> thing & 1:
                room[mask] = min(room[mask], room[mask ^ 1 << thing])
    return room
