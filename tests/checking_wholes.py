"""What several test files ask of whole sets and of weights. The classes here hold no test of their own."""

from freesets.wholes import both_ways, changes, heaviest, is_whole, lightest, rings, whole, wholes
from tests import words, words_wholes
from tests.checking import SetChecks


def handed_orders(one, other):
    """Two sets in several orders each, not both in the same."""
    return list(zip(words.orders(one), words.orders(other)[1:] + words.orders(other)[:1]))


class WholeChecks(SetChecks):
    """Points 7 and 8, against a table of what is free."""

    def check_whole(self, rule, free):
        found = words_wholes.wholes(free)
        told = whole(rule)
        self.check_set(told, rule.many())
        self.assertIn(told, found)
        for some in words.sets_of(rule.many()):
            for handed in words.orders(some):
                before = list(handed)
                self.assertIs(is_whole(rule, handed), some in found)
                self.assertEqual(handed, before)

    def check_listed(self, rule, free):
        self.assertEqual(wholes(rule), words_wholes.wholes(free))
        self.assertEqual(rings(rule), words_wholes.rings(free))

    def check_changes(self, rule, free):
        found = words_wholes.wholes(free)
        for one in found:
            for other in found:
                for near, far in handed_orders(one, other):
                    told = changes(rule, near, far)
                    self.follow(told, one, other, lambda stage: sorted(stage) in found)
                    self.assertEqual((sorted(near), sorted(far)), (one, other))

    def follow(self, told, one, other, is_a_whole):
        """Go through the changes from the one whole set to the other."""
        self.assertIs(type(told), list)
        self.assertLessEqual(len(told), len(set(one) - set(other)))
        stage = set(one)
        for change in told:
            self.assertIs(type(change), tuple)
            goer, comer = change
            self.assertEqual((type(goer), type(comer)), (int, int))
            self.assertIn(goer, stage)
            self.assertNotIn(comer, stage)
            stage = stage - {goer} | {comer}
            self.assertTrue(is_a_whole(stage))
        self.assertEqual(stage, set(other))

    def check_both_ways(self, rule, free):
        found = words_wholes.wholes(free)
        for one in found:
            for other in found:
                for thing in set(one) - set(other):
                    fits = words_wholes.mates(found, one, other, thing)
                    for near, far in handed_orders(one, other):
                        before = (list(near), list(far))
                        told = both_ways(rule, near, far, thing)
                        self.assertIs(type(told), int)
                        self.assertIn(told, fits)
                        self.assertEqual((near, far), before)

    def check_points(self, rule, free):
        self.check_whole(rule, free)
        self.check_listed(rule, free)
        self.check_changes(rule, free)
        self.check_both_ways(rule, free)


class WeightChecks(SetChecks):
    """Point 13, against a table of what is free."""

    def check_weighed(self, told, many, weights):
        self.assertIs(type(told), tuple)
        total, some = told
        self.assertIs(type(total), int)
        self.check_set(some, many)
        self.assertEqual(total, sum(weights[thing] for thing in some))
        return total, words.mask_of(some)

    def check_weights(self, rule, free, weights):
        before = list(weights)
        total, mask = self.check_weighed(heaviest(rule, weights), rule.many(), weights)
        self.assertTrue(free[mask])
        self.assertEqual(total, words_wholes.most_weight(free, weights))
        total, mask = self.check_weighed(lightest(rule, weights), rule.many(), weights)
        self.assertIn(words.set_of(mask), words_wholes.wholes(free))
        self.assertEqual(total, words_wholes.least_weight(free, weights))
        self.assertEqual(weights, before)
