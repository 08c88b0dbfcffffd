"""Rules made of rules."""

from freesets.checks import check_set, is_within
from freesets.errors import BadRule
from freesets.joining import put_in
from freesets.known import Known, known_each
from freesets.masks import all_of, mask_of, things_of
from freesets.rules import MOST_THINGS, Rule, check_rule, check_rules

HIGHEST_BOUND = 16


class Turned(Rule):
    """Free is what leaves a whole set of the rule outside it."""

    def __init__(self, rule):
        check_rule(rule)
        self.size = rule.many()
        self.inner = Known(rule)
        self.ground = all_of(self.size)
        self.most = self.inner.rank_of(self.ground)

    def many(self):
        return self.size

    def free(self, some):
        check_set(some, self.size)
        return self.inner.rank_of(self.ground ^ mask_of(some)) == self.most

    def rank_of(self, mask):
        # What the rank outside lacks, a whole set takes out of this one.
        return len(things_of(mask)) + self.inner.rank_of(self.ground ^ mask) - self.most


class Cut(Rule):
    """Free is what is free by the rule and has no more things than the bound."""

    def __init__(self, rule, bound):
        check_rule(rule)
        if not is_within(bound, 0, HIGHEST_BOUND):
            raise BadRule("a bound is a number from 0 to 16")
        self.size = rule.many()
        self.inner = Known(rule)
        self.bound = bound

    def many(self):
        return self.size

    def free(self, some):
        check_set(some, self.size)
        return len(some) <= self.bound and self.inner.is_free(mask_of(some))

    def rank_of(self, mask):
        return min(self.bound, self.inner.rank_of(mask))


class Kept(Rule):
    """Some things of the ground alone, counted anew."""

    def __init__(self, rule, some):
        check_rule(rule)
        check_set(some, rule.many())
        self.inner = Known(rule)
        self.things = tuple(sorted(some))

    def many(self):
        return len(self.things)

    def free(self, some):
        check_set(some, self.many())
        return self.inner.is_free(spread(some, self.things))

    def rank_of(self, mask):
        return self.inner.rank_of(spread(things_of(mask), self.things))


class Held(Rule):
    """The things beside some, counted anew; free is what makes the rank of those some greater by all it has."""

    def __init__(self, rule, some):
        check_rule(rule)
        check_set(some, rule.many())
        self.inner = Known(rule)
        self.things = tuple([thing for thing in range(rule.many()) if thing not in some])
        self.held = mask_of(some)
        self.least = self.inner.rank_of(self.held)

    def many(self):
        return len(self.things)

    def free(self, some):
        check_set(some, self.many())
        return self.rank_of(mask_of(some)) == len(some)

    def rank_of(self, mask):
        return self.inner.rank_of(self.held | spread(things_of(mask), self.things)) - self.least


class Beside(Rule):
    """The things of one rule and then those of another; free is what is free in both parts."""

    def __init__(self, one, other):
        check_rule(one)
        check_rule(other)
        if one.many() + other.many() > MOST_THINGS:
            raise BadRule("a ground has at most 16 things")
        self.first = one.many()
        self.size = one.many() + other.many()
        self.one, self.other = known_each([one, other])

    def many(self):
        return self.size

    def free(self, some):
        check_set(some, self.size)
        mask = mask_of(some)
        return self.one.is_free(mask & all_of(self.first)) and self.other.is_free(mask >> self.first)

    def rank_of(self, mask):
        return self.one.rank_of(mask & all_of(self.first)) + self.other.rank_of(mask >> self.first)


class Joined(Rule):
    """Free is what can be parted so that each rule's part is free by it."""

    def __init__(self, rules):
        check_rules(rules)
        self.size = rules[0].many()
        self.inners = tuple(known_each(rules))
        # By the mask of what is parted; each is kept, as those of greater sets grow out of it.
        self.partings = {0: [0] * len(rules)}

    def many(self):
        return self.size

    def free(self, some):
        check_set(some, self.size)
        return self.parting_of(sorted(some)) is not None

    def parting_of(self, things):
        """Parts, as masks, for rising things; None if there are none."""
        mask = 0
        found = self.partings[mask]
        for thing in things:
            mask |= 1 << thing
            if mask not in self.partings:
                self.partings[mask] = put_in(self.inners, found, thing)
            found = self.partings[mask]
            if found is None:
                return None
        return found


def spread(some, things):
    """The mask, in the ground beneath, of some of the things that are counted anew."""
    return mask_of([things[thing] for thing in some])
