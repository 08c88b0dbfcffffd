"""Sets as masks, numbers with a bit for each thing: a mask can be a key, and a part of a set is soon told."""


def mask_of(some):
    return sum([1 << thing for thing in some])


def things_of(mask):
    return [thing for thing in range(mask.bit_length()) if mask >> thing & 1]


def all_of(many):
    """The mask of a whole ground."""
    return (1 << many) - 1
