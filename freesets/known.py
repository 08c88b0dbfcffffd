"""What is known of a rule: its answers are kept, as rules made of rules ask the same again and again."""

from freesets.masks import things_of

FEW_THINGS = 8


class Known:
    """The answers of one rule about the masks that it was asked of."""

    def __init__(self, rule):
        self.rule = rule
        self.frees = {}
        self.ranks = {}
        if rule.many() <= FEW_THINGS:
            self.ask_all()

    def is_free(self, mask):
        if mask not in self.frees:
            self.frees[mask] = self.rule.free(things_of(mask))
        return self.frees[mask]

    def rank_of(self, mask):
        if mask not in self.ranks:
            told = self.rule.rank_of(mask)
            self.ranks[mask] = self.grown_rank(mask) if told is None else told
        return self.ranks[mask]

    def grown_rank(self, mask):
        # By point 6, no free set in it is greater than one that takes nothing more of it.
        taken = 0
        for thing in things_of(mask):
            if self.is_free(taken | 1 << thing):
                taken |= 1 << thing
        return len(things_of(taken))

    def ask_all(self):
        # However deep small rules lie in one another, no later question goes down through all of them:
        # Python allows only so many calls within calls.
        for mask in range(1 << self.rule.many()):
            self.is_free(mask)
            self.rank_of(mask)


def known_each(rules):
    """What is known of each of the rules, the same where a rule stands several times."""
    found = {}
    for rule in rules:
        if rule not in found:
            found[rule] = Known(rule)
    return [found[rule] for rule in rules]
