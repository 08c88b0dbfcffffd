"""The words of points 7, 8 and 13 of whole sets and weights, over tables of what is free."""

from tests import words, words_made


def wholes(free):
    """All whole sets, in the order of lists."""
    return sorted(words.set_of(mask) for mask in words_made.wholes(free))


def rings(free):
    """All rings, in the order of lists."""
    return sorted(words.rings_in(free, len(free) - 1))


def mates(found, one, other, thing):
    """What fits both ways: the things of the other whole set alone, so that both are whole after the change."""
    fits = []
    for mate in set(other) - set(one):
        near = sorted(set(one) - {thing} | {mate})
        far = sorted(set(other) - {mate} | {thing})
        if near in found and far in found:
            fits.append(mate)
    return fits


def sums(weights):
    """For each set, by its mask, the sum of its weights."""
    found = [0]
    for weight in weights:
        found.extend([weight + lesser for lesser in found])
    return found


def most_weight(free, weights):
    return max(weight for weight, is_free in zip(sums(weights), free) if is_free)


def least_weight(free, weights):
    found = sums(weights)
    return min(found[mask] for mask in words_made.wholes(free))
