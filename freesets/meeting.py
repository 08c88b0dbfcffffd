"""A greatest set that is free by two rules, and a part of the ground that tells why none is greater."""

from freesets.answers import Common
from freesets.known import known_each
from freesets.masks import all_of, things_of
from freesets.rules import check_rules


def common(one, other):
    check_rules([one, other])
    near, far = known_each([one, other])
    ground = all_of(one.many())
    some = 0
    while True:
        steps, last = shortest_way(near, far, ground, some)
        if last is None:
            # By the other rule, what the steps lead to has no greater rank than there are things of the set
            # in it; nor has, by the one rule, all that they don't lead to.
            return Common(things_of(some), [thing for thing in things_of(ground) if thing not in steps])
        some = changed_along(some, steps, last)


def shortest_way(one, other, ground, some):
    """The steps of a shortest way that makes the set greater by one thing, and the last thing on it.

    A way starts at a thing that can be put to the set by the one rule, and ends at one that can be put
    to it by the other. In between, each thing that comes in takes the place of the next one by the
    other rule, and each one that goes out makes room for the next one by the one rule. A step says
    which thing stands ahead; a first one has none. Where there is no way, None is told last.
    """
    outside = things_of(ground ^ some)
    waiting = [thing for thing in outside if one.is_free(some | 1 << thing)]
    steps = {thing: None for thing in waiting}
    while waiting:
        mover = waiting.pop(0)
        goes = bool(some >> mover & 1)
        if not goes and other.is_free(some | 1 << mover):
            return steps, mover
        known = one if goes else other
        mates = outside if goes else things_of(some)
        for mate in mates:
            if mate not in steps and known.is_free(some ^ (1 << mover | 1 << mate)):
                steps[mate] = mover
                waiting.append(mate)
    return steps, None


def changed_along(some, steps, last):
    """The set after each thing on the way has come in or gone out: free by both, as no way is shorter."""
    after = some
    mover = last
    while mover is not None:
        after ^= 1 << mover
        mover = steps[mover]
    return after
