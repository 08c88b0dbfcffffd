"""Point 13: the heaviest of all free sets and the lightest of all whole sets."""

from itertools import product
from random import Random

from freesets.made import Beside, Cut, Held, Joined, Kept, Turned
from freesets.rules import Bits, Kinds, Posts, Threads
from freesets.wholes import heaviest, lightest
from tests import samples, words
from tests.checking_wholes import WeightChecks

GREATEST = 1000000000
TRIANGLE = Threads(4, [(0, 1), (1, 2), (2, 0), (2, 3)])


def some_weights(source, many):
    """Weights of few numbers, many the same, none above or below 0, the greatest ones, and any."""
    choices = [
        [0, 1], [-1, 0, 1], [-2, -1], [1, 2, 3], [5], [0], [-5], [-GREATEST, GREATEST], [-GREATEST, 0, 1, GREATEST],
        list(range(-9, 10)),
    ]
    return [[source.choice(choice) for thing in range(many)] for choice in choices]


class SmallGroundsTest(WeightChecks):
    def test_all_weights_of_few_numbers(self):
        for rule in samples.few_rules():
            if rule.many() < 5:
                free = words.free_table(rule)
                for weights in product((-2, 0, 1, 2), repeat=rule.many()):
                    self.check_weights(rule, free, list(weights))

    def test_each_of_the_four_sorts(self):
        source = Random(31)
        for rule in samples.small_rules():
            free = words.free_table(rule)
            for weights in some_weights(source, rule.many()):
                with self.subTest(rule=vars(rule), weights=weights):
                    self.check_weights(rule, free, weights)

    def test_each_of_the_six_rules_made_of_rules(self):
        source = Random(32)
        for rule in samples.few_rules():
            for made, free in samples.every_way(rule, words.free_table(rule)):
                for weights in some_weights(source, made.many()):
                    with self.subTest(rule=vars(rule), made=type(made), weights=weights):
                        self.check_weights(made, free, weights)


class ChosenTest(WeightChecks):
    def test_no_things(self):
        for rule in (Threads(1, []), Kinds([], []), Posts([]), Bits([]), Turned(Bits([])), Kept(TRIANGLE, []),
                     Held(TRIANGLE, [0, 1, 2, 3]), Cut(Bits([]), 4), Beside(Bits([]), Bits([])), Joined([Bits([])])):
            self.assertEqual(heaviest(rule, []), (0, []))
            self.assertEqual(lightest(rule, []), (0, []))

    def test_the_heaviest_holds_nothing_that_makes_it_lighter(self):
        self.assertEqual(heaviest(TRIANGLE, [-1, -2, -3, -GREATEST]), (0, []))
        self.assertEqual(heaviest(TRIANGLE, [-1, 4, -3, 2]), (6, [1, 3]))
        self.assertEqual(heaviest(TRIANGLE, [3, 4, 5, 1]), (10, [1, 2, 3]))
        self.assertEqual(heaviest(Kinds([0, 0, 1], [1, 0]), [2, 3, GREATEST]), (3, [1]))

    def test_the_lightest_is_whole(self):
        self.assertEqual(lightest(TRIANGLE, [3, 4, 5, 1]), (8, [0, 1, 3]))
        self.assertEqual(lightest(TRIANGLE, [5, 4, 3, 1]), (8, [1, 2, 3]))
        self.assertEqual(lightest(TRIANGLE, [-3, -4, -5, -1]), (-10, [1, 2, 3]))
        self.assertEqual(lightest(TRIANGLE, [-3, 0, -3, GREATEST]), (GREATEST - 6, [0, 2, 3]))
        self.assertEqual(lightest(Kinds([0, 0, 1], [1, 0]), [3, 2, -GREATEST]), (2, [1]))

    def test_the_greatest_weights(self):
        rule = Kinds([0] * 16, [16])
        self.assertEqual(heaviest(rule, [GREATEST] * 16), (16 * GREATEST, list(range(16))))
        self.assertEqual(lightest(rule, [GREATEST] * 16), (16 * GREATEST, list(range(16))))
        self.assertEqual(heaviest(rule, [-GREATEST] * 16), (0, []))
        self.assertEqual(lightest(rule, [-GREATEST] * 16), (-16 * GREATEST, list(range(16))))


class GreatGroundsTest(WeightChecks):
    def test_sixteen_things(self):
        source = Random(33)
        for rule, free in samples.great_tables():
            for weights in some_weights(source, 16)[::3] + [[source.randrange(-99, 100) for thing in range(16)]]:
                self.check_weights(rule, free, weights)

    def test_sixteen_things_of_rules_made_of_rules(self):
        source = Random(34)
        ties, kinds, posts, bits = samples.great_rules()
        for rule in (Turned(Joined([ties, Cut(kinds, 2)])), Joined([Cut(bits, 3), Cut(posts, 3)])):
            free = words.free_table(rule)
            self.check_weights(rule, free, [source.randrange(-99, 100) for thing in range(16)])
