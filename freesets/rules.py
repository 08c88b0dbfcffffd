"""Rules, which tell what sets of their things are free, and the four sorts of them."""

from freesets.checks import check_set, is_within
from freesets.errors import BadRule

MOST_THINGS = 16
MOST_RULES = 8
MOST_PLACES = 20
MOST_OF_A_KIND = 16
HIGHEST_POST = 30
HIGHEST_ROW = 2 ** 32 - 1


class Rule:
    """What every rule can be asked; only the classes beneath it are made."""

    def many(self):
        raise BadRule("a Rule is not made itself")

    def free(self, some):
        raise BadRule("a Rule is not made itself")

    def rank_of(self, mask):
        """The rank of a mask, if the rule has a shorter way to it than to ask what is free; else None."""
        return None


class Threads(Rule):
    """The things are ties between places; free is what no walk can go around in."""

    def __init__(self, places, ties):
        if not is_within(places, 1, MOST_PLACES):
            raise BadRule("there are 1 to 20 places")
        check_ground(ties)
        if not all([is_tie(tie, places) for tie in ties]):
            raise BadRule("a tie is a tuple of two of the places")
        self.places = places
        self.ties = tuple([(tie[0], tie[1]) for tie in ties])

    def many(self):
        return len(self.ties)

    def free(self, some):
        check_set(some, self.many())
        # Two places have the same mark if a walk over the ties so far joins them.
        marks = list(range(self.places))
        for thing in some:
            near, far = self.ties[thing]
            stays = marks[near]
            goes = marks[far]
            if stays == goes:
                return False
            marks = [stays if mark == goes else mark for mark in marks]
        return True


class Kinds(Rule):
    """Each thing is of a kind; free is what has no more of a kind than there may be."""

    def __init__(self, kinds, most):
        if not are_within(most, 0, MOST_OF_A_KIND):
            raise BadRule("how many there may be of each kind is a list of numbers from 0 to 16")
        check_ground(kinds)
        if not are_within(kinds, 0, len(most) - 1):
            raise BadRule("a kind is a number from 0 to one below the count of kinds")
        self.kinds = tuple(kinds)
        self.most = tuple(most)

    def many(self):
        return len(self.kinds)

    def free(self, some):
        check_set(some, self.many())
        counts = [0] * len(self.most)
        for thing in some:
            counts[self.kinds[thing]] += 1
        return all([has <= may for has, may in zip(counts, self.most)])


class Posts(Rule):
    """Each thing wants posts; free is what can be given posts, no two the same."""

    def __init__(self, wants):
        check_ground(wants)
        if not all([are_posts(posts) for posts in wants]):
            raise BadRule("what a thing wants is a list of different numbers from 0 to 30")
        self.wants = tuple([tuple(posts) for posts in wants])

    def many(self):
        return len(self.wants)

    def free(self, some):
        check_set(some, self.many())
        holders = {}
        for thing in some:
            if not gets_post(thing, self.wants, holders, []):
                return False
        return True


class Bits(Rule):
    """Each thing has a row of bits; free is what has no part whose rows cancel out."""

    def __init__(self, rows):
        check_ground(rows)
        if not are_within(rows, 0, HIGHEST_ROW):
            raise BadRule("a row is a number of 32 bits")
        self.rows = tuple(rows)

    def many(self):
        return len(self.rows)

    def free(self, some):
        check_set(some, self.many())
        taken = []
        for thing in some:
            row = lessened(self.rows[thing], taken)
            if row == 0:
                return False
            taken.append(row)
        return True


def check_rule(rule):
    if not isinstance(rule, Rule):
        raise BadRule("what stands for a rule is none")


def check_rules(rules):
    if not isinstance(rules, list) or not is_within(len(rules), 1, MOST_RULES):
        raise BadRule("rules are handed in as a list of 1 to 8 of them")
    for rule in rules:
        check_rule(rule)
    if any([rule.many() != rules[0].many() for rule in rules]):
        raise BadRule("the rules are over grounds of one size")


def check_ground(things):
    if not isinstance(things, list):
        raise BadRule("what the things are is handed in as a list")
    if len(things) > MOST_THINGS:
        raise BadRule("a ground has at most 16 things")


def are_within(values, low, high):
    return isinstance(values, list) and all([is_within(value, low, high) for value in values])


def is_tie(tie, places):
    if not isinstance(tie, tuple) or len(tie) != 2:
        return False
    return all([is_within(place, 0, places - 1) for place in tie])


def are_posts(posts):
    return are_within(posts, 0, HIGHEST_POST) and len(set(posts)) == len(posts)


def gets_post(thing, wants, holders, tried):
    """Give the thing a post it wants, if need be one whose holder can take another one."""
    for post in wants[thing]:
        if post in tried:
            continue
        # A post that was tried once for this newcomer is not to be had by another way either.
        tried.append(post)
        if post not in holders or gets_post(holders[post], wants, holders, tried):
            holders[post] = thing
            return True
    return False


def lessened(row, taken):
    """The row less the taken rows: 0 if it is a sum of some of them."""
    for other in taken:
        # The lesser one lacks the other's highest bit, and no row taken later brings it back.
        row = min(row, row ^ other)
    return row
