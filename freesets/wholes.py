"""Whole sets: changes from one to another, all of them and all rings, and the sets that weigh most and least."""

from freesets.checks import check_set, check_thing, check_weights
from freesets.errors import BadRule, BadThing, NotWhole
from freesets.known import Known
from freesets.masks import all_of, things_of
from freesets.ranks import grown, ring, without

MOST_LISTED = 10


def whole(rule):
    return grown(rule, list(range(rule.many())))


def is_whole(rule, some):
    return rule.free(some) and len(some) == len(whole(rule))


def changes(rule, one, other):
    check_wholes(rule, one, other)
    stage = one
    found = []
    for comer in sorted(other):
        if comer not in stage:
            # The other set is free, so the ring is no part of it, and what goes need not come back.
            goer = [thing for thing in ring(rule, stage, comer) if thing not in other][0]
            stage = changed(stage, goer, comer)
            found.append((goer, comer))
    return found


def both_ways(rule, one, other, thing):
    check_wholes(rule, one, other)
    check_thing(thing, rule.many())
    if thing not in one or thing in other:
        raise BadThing("the thing is of the one set and not of the other")
    mates = [mate for mate in sorted(other) if mate not in one and rule.free(changed(one, thing, mate))]
    # By point 8, one of them fits the other way as well.
    return [mate for mate in mates if rule.free(changed(other, mate, thing))][0]


def wholes(rule):
    check_listed(rule)
    known = Known(rule)
    most = known.rank_of(all_of(rule.many()))
    frees = [things_of(mask) for mask in range(1 << rule.many()) if known.is_free(mask)]
    return sorted([some for some in frees if len(some) == most])


def rings(rule):
    check_listed(rule)
    known = Known(rule)
    return sorted([things_of(mask) for mask in range(1 << rule.many()) if is_ring(known, mask)])


def heaviest(rule, weights):
    check_weights(weights, rule.many())
    gains = [thing for thing in range(rule.many()) if weights[thing] > 0]
    return weighed(weights, grown(rule, sorted(gains, key=lambda thing: weights[thing], reverse=True)))


def lightest(rule, weights):
    check_weights(weights, rule.many())
    return weighed(weights, grown(rule, sorted(range(rule.many()), key=lambda thing: weights[thing])))


def check_wholes(rule, one, other):
    check_set(one, rule.many())
    check_set(other, rule.many())
    if not is_whole(rule, one) or not is_whole(rule, other):
        raise NotWhole("both sets are whole ones")


def check_listed(rule):
    if rule.many() > MOST_LISTED:
        raise BadRule("all sets of a sort are listed for at most 10 things")


def changed(some, goer, comer):
    return without(some, goer) + [comer]


def is_ring(known, mask):
    if known.is_free(mask):
        return False
    return all([known.is_free(mask ^ 1 << thing) for thing in things_of(mask)])


def weighed(weights, some):
    return (sum([weights[thing] for thing in some]), some)
