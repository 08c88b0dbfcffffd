"""Ranks of sets, what they reach, and the rings that a thing makes with a free set."""

from freesets.checks import check_set, check_thing
from freesets.errors import BadThing, NotFree


def rank(rule, some):
    # By point 6, no free set in it is greater than one that takes nothing more of it.
    return len(grown(rule, some))


def grown(rule, some):
    check_set(some, rule.many())
    taken = []
    for thing in some:
        if rule.free(taken + [thing]):
            taken.append(thing)
    # The order handed in settles what is taken, but a set is told as a rising list.
    return sorted(taken)


def reach(rule, some):
    taken = grown(rule, some)
    return [thing for thing in range(rule.many()) if thing in some or not rule.free(taken + [thing])]


def ring(rule, some, thing):
    check_set(some, rule.many())
    check_thing(thing, rule.many())
    if thing in some:
        raise BadThing("the thing is one of the set")
    if not rule.free(some):
        raise NotFree("a ring is asked of a free set")
    together = some + [thing]
    if rule.free(together):
        return []
    # There is just one ring, so a thing is in it if all is free without that thing.
    return sorted([other for other in together if rule.free(without(together, other))])


def without(some, thing):
    return [other for other in some if other != thing]
