"""Point 9: which sets are free, for each of the rules made of rules."""

import unittest
from random import Random

from freesets.made import Beside, Cut, Held, Joined, Kept, Turned
from freesets.ranks import rank
from freesets.rules import Bits, Kinds, Posts, Rule, Threads
from tests import checking, samples, words, words_made

EMPTY = [Threads(1, []), Kinds([], []), Posts([]), Bits([])]
FALLING = list(range(15, -1, -1))


class TurnedTest(checking.FreeChecks):
    def test_small_grounds(self):
        for rule in samples.small_rules():
            with self.subTest(rule=vars(rule)):
                self.check_table(Turned(rule), words_made.turned(words.free_table(rule)))

    def test_turned_twice(self):
        for rule in samples.small_rules():
            with self.subTest(rule=vars(rule)):
                self.check_table(Turned(Turned(rule)), words.free_table(rule))

    def test_all_free_or_none_free(self):
        self.assertIs(Turned(Kinds([0, 0], [0])).free([1, 0]), True)
        self.assertIs(Turned(Kinds([0, 0], [2])).free([1]), False)
        self.assertIs(Turned(Kinds([0, 0], [2])).free([]), True)


class CutTest(checking.FreeChecks):
    def test_small_grounds(self):
        for rule in samples.small_rules():
            free = words.free_table(rule)
            most = rank(rule, list(range(rule.many())))
            for bound in {0, 1, 2, max(0, most - 1), most, most + 1, 16}:
                with self.subTest(rule=vars(rule), bound=bound):
                    self.check_table(Cut(rule, bound), words_made.cut(free, bound))

    def test_each_bound_on_sixteen_things(self):
        rule = Kinds([0] * 16, [16])
        for bound in range(17):
            made = Cut(rule, bound)
            self.assertIs(made.free(FALLING[:bound]), True)
            if bound < 16:
                self.assertIs(made.free(FALLING[:bound + 1]), False)


class KeptAndHeldTest(checking.FreeChecks):
    def check_both(self, rule, some):
        free = words.free_table(rule)
        for handed in words.orders(some):
            with self.subTest(rule=vars(rule), some=handed):
                self.check_table(Kept(rule, handed), words_made.kept(free, handed))
                self.check_table(Held(rule, handed), words_made.held(free, handed))

    def test_all_sets_of_a_few_rules(self):
        for rule in samples.few_rules():
            for some in words.sets_of(rule.many()):
                self.check_both(rule, some)

    def test_some_sets_of_small_grounds(self):
        for rule in samples.small_rules()[::3]:
            things = list(range(rule.many()))
            for some in ([], things, things[::2], things[1:3]):
                self.check_both(rule, some)

    def test_things_are_counted_anew_in_their_order(self):
        rule = Kinds([0, 1, 2, 3], [0, 1, 1, 0])
        for some in ([3, 2, 1], [1, 2, 3], [2, 3, 1]):
            made = Kept(rule, some)
            self.assertEqual(made.many(), 3)
            self.assertEqual([made.free([thing]) for thing in range(3)], [True, True, False])
        for some in ([3, 0], [0, 3]):
            self.assertEqual([Held(rule, some).free([thing]) for thing in range(2)], [True, True])
        for some in ([2, 0], [0, 2]):
            self.assertEqual([Held(rule, some).free([thing]) for thing in range(2)], [True, False])

    def test_held_things_that_are_not_free_together(self):
        triangle = Threads(4, [(0, 1), (1, 2), (2, 0), (2, 3), (0, 1)])
        made = Held(triangle, [2, 1, 0])
        self.assertEqual(made.many(), 2)
        self.assertIs(made.free([0]), True)
        self.assertIs(made.free([1]), False)
        self.assertIs(Held(triangle, [4, 0]).free([0]), True)
        self.assertIs(Held(triangle, [4, 0]).free([0, 1]), False)


class BesideTest(checking.FreeChecks):
    def test_a_few_rules_by_one_another(self):
        few = [(rule, words.free_table(rule)) for rule in samples.few_rules()]
        for one, near in few:
            for other, far in few[::2]:
                with self.subTest(one=vars(one), other=vars(other)):
                    self.check_table(Beside(one, other), words_made.beside(near, far))

    def test_a_rule_by_itself(self):
        for rule in samples.few_rules():
            free = words.free_table(rule)
            self.check_table(Beside(rule, rule), words_made.beside(free, free))

    def test_none_and_sixteen_things(self):
        for great in samples.great_rules():
            for empty in EMPTY:
                for made in (Beside(great, empty), Beside(empty, great)):
                    self.assertEqual(made.many(), 16)
                    for some in ([], [15, 0], FALLING[::3], FALLING[5:8], FALLING):
                        self.assertIs(made.free(some), great.free(some))

    def test_eight_and_eight(self):
        one = Kinds([0] * 8, [3])
        other = Threads(8, [(place, (place + 1) % 8) for place in range(8)])
        made = Beside(one, other)
        self.assertEqual(made.many(), 16)
        self.assertIs(made.free([15, 14, 13, 12, 11, 10, 9, 7, 0, 1]), True)
        self.assertIs(made.free([15, 14, 13, 12, 11, 10, 9, 8, 0]), False)
        self.assertIs(made.free([15, 7, 6, 5, 4]), False)


class JoinedTest(checking.FreeChecks):
    def check_joined(self, rules):
        with self.subTest(rules=[vars(rule) for rule in rules]):
            self.check_table(Joined(rules), words_made.joined([words.free_table(rule) for rule in rules]))

    def test_one_rule_and_the_same_several_times(self):
        for rule in samples.small_rules()[::3]:
            for times in (1, 2, 3):
                self.check_joined([rule] * times)

    def test_unlike_rules(self):
        few = samples.few_rules()
        for many in range(6):
            rules = samples.of_size(few, many)
            for one in rules:
                for other in rules:
                    self.check_joined([one, other])
            self.check_joined(rules)

    def test_eight_rules(self):
        for many in range(6):
            rules = samples.of_size(samples.few_rules(), many)
            self.check_joined((rules * 4)[:8])
        self.check_joined([Kinds([0, 0, 0, 0, 0], [1])] * 8)
        self.check_joined([Kinds([0, 0, 0, 0, 0], [0])] * 7 + [Bits([1, 2, 3, 4, 5])])

    def test_random_rules(self):
        source = Random(9)
        for turn in range(150):
            many = source.randrange(3, 7)
            self.check_joined([samples.random_sort(source, many) for rule in range(source.randrange(2, 5))])

    def test_a_thing_goes_to_another_part_for_one_that_comes_later(self):
        either = Kinds([0, 0], [1])
        for thing in range(2):
            only = Kinds([thing, 1 - thing], [1, 0])
            self.assertIs(Joined([either, only]).free([0, 1]), True)
            self.assertIs(Joined([only, either]).free([1, 0]), True)
        self.check_joined([either, Kinds([0, 1], [1, 0])])

    def test_every_thing_goes_to_another_part(self):
        # Thing 7 fits the first part alone, and each other one fits two parts that stand by one another.
        rules = [Kinds([int(thing not in (7 - place, 6 - place)) for thing in range(8)], [1, 0]) for place in range(8)]
        everything = list(range(8))
        for handed in words.orders(everything):
            self.assertIs(Joined(rules).free(handed), True)
            self.assertIs(Joined(rules[::-1]).free(handed), True)
        self.check_joined(rules)

    def test_sixteen_things_among_eight_rules(self):
        pairs = [Kinds([int(thing // 2 != place) for thing in range(16)], [2, 0]) for place in range(8)]
        self.assertIs(Joined(pairs).free(FALLING), True)
        singles = [Kinds([int(thing // 2 != place) for thing in range(16)], [1, 0]) for place in range(8)]
        self.assertIs(Joined(singles).free(FALLING[::2]), True)
        self.assertIs(Joined(singles).free(FALLING[::2] + [0]), False)
        two = [Kinds([0] * 16, [2])] * 8
        self.assertIs(Joined(two).free(FALLING), True)
        self.assertIs(Joined(two[1:]).free(FALLING), False)
        self.assertIs(Joined(two[1:]).free(FALLING[2:]), True)


class SixteenThingsTest(unittest.TestCase):
    """Some sets of grounds of 16 things, against tables of all sets of what the rules are made of."""

    @classmethod
    def setUpClass(cls):
        cls.rules = samples.great_rules()
        cls.free = [words.free_table(rule) for rule in cls.rules]
        cls.ranks = [words.rank_table(free) for free in cls.free]
        source = Random(10)
        cls.chosen = [source.sample(range(16), count) for count in range(17) for turn in range(20)]

    def check(self, made, wanted, many=16):
        self.assertEqual(made.many(), many)
        for some in self.chosen:
            if max(some, default=0) < many:
                self.assertIs(made.free(some), wanted(words.mask_of(some)), some)

    def test_turned(self):
        for rule, ranks in zip(self.rules, self.ranks):
            self.check(Turned(rule), lambda mask: ranks[0xFFFF & ~mask] == ranks[0xFFFF])

    def test_cut(self):
        for rule, free in zip(self.rules, self.free):
            for bound in (0, 3, 16):
                self.check(Cut(rule, bound), lambda mask: free[mask] and mask.bit_count() <= bound)

    def test_kept_and_held(self):
        for rule, free, ranks in zip(self.rules, self.free, self.ranks):
            for some in ([], FALLING, [12, 0, 5], [14, 2, 7, 1, 9, 3, 11, 10]):
                near = words_made.anew(some)
                self.check(Kept(rule, some), lambda mask: free[near[mask]], len(some))
                base = words.mask_of(some)
                far = words_made.anew(thing for thing in range(16) if thing not in some)
                self.check(
                    Held(rule, some),
                    lambda mask: ranks[base | far[mask]] - ranks[base] == mask.bit_count(), 16 - len(some))

    def test_joined(self):
        for chosen in ([0], [0, 1], [2, 3], [0, 0], [3, 1, 0, 2], [3, 0] * 4, [0, 1, 2, 3] * 2):
            room = words_made.least_room([self.ranks[place] for place in chosen])
            self.check(Joined([self.rules[place] for place in chosen]), lambda mask: room[mask] >= 0)


class NoThingsTest(unittest.TestCase):
    def test_each_rule_over_a_ground_of_no_things(self):
        for rule in EMPTY:
            made = [
                Turned(rule), Cut(rule, 0), Cut(rule, 16), Kept(rule, []), Held(rule, []), Beside(rule, rule),
                Joined([rule]), Joined(EMPTY), Joined(EMPTY * 2),
            ]
            for other in made:
                self.assertEqual(other.many(), 0)
                self.assertIs(other.free([]), True)

    def test_kept_of_nothing_and_held_of_everything(self):
        for rule in samples.few_rules() + samples.great_rules():
            everything = list(range(rule.many()))[::-1]
            for made in (Kept(rule, []), Held(rule, everything)):
                self.assertEqual(made.many(), 0)
                self.assertIs(made.free([]), True)

    def test_each_is_a_rule(self):
        for made in (Turned, Cut, Kept, Held, Beside, Joined):
            self.assertEqual(made.__bases__, (Rule,))
