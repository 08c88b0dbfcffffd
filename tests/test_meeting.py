"""Point 12: a set that is free by two rules, and a part of the ground that tells that none is greater."""

from itertools import permutations, product
from random import Random

from freesets.made import Beside, Cut, Held, Joined, Kept, Turned
from freesets.meeting import common
from freesets.rules import Bits, Kinds, Posts, Threads
from tests import samples, words
from tests.checking_answers import CommonChecks

EMPTY = [Threads(1, []), Kinds([], [3]), Posts([]), Bits([])]
TRIANGLE = Threads(4, [(0, 1), (1, 2), (2, 0), (2, 3)])


class SmallGroundsTest(CommonChecks):
    def check_both_rounds(self, one, near, other, far):
        for first, first_free, second, second_free in ((one, near, other, far), (other, far, one, near)):
            answer = common(first, second)
            self.check_common(answer, first, second)
            self.check_common_by_tables(answer, first_free, second_free)

    def test_unlike_sorts_and_like_ones(self):
        for many in range(6):
            rules = [(rule, words.free_table(rule)) for rule in samples.of_size(samples.few_rules(), many)]
            for one, near in rules:
                for other, far in rules:
                    with self.subTest(one=vars(one), other=vars(other)):
                        self.check_both_rounds(one, near, other, far)

    def test_small_grounds_of_each_sort(self):
        for many in (3, 4, 5, 6):
            rules = [(rule, words.free_table(rule)) for rule in samples.of_size(samples.small_rules(), many)]
            for step in (0, 1, 5, len(rules) // 2):
                for (one, near), (other, far) in zip(rules, rules[step:] + rules[:step]):
                    with self.subTest(one=vars(one), other=vars(other)):
                        self.check_both_rounds(one, near, other, far)

    def test_one_rule_twice(self):
        for rule in samples.small_rules():
            free = words.free_table(rule)
            answer = common(rule, rule)
            self.check_common_by_tables(answer, free, free)
            self.assertEqual(len(answer.some), words.rank_table(free)[-1])

    def test_rules_made_of_rules(self):
        for rule in samples.few_rules():
            if rule.many() in (3, 4):
                pairs = samples.every_way(rule, words.free_table(rule)) + [(rule, words.free_table(rule))]
                for one, near in pairs:
                    for other, far in pairs:
                        if one.many() == other.many():
                            with self.subTest(rule=vars(rule), one=type(one), other=type(other)):
                                self.check_both_rounds(one, near, other, far)

    def test_random_rules_of_unlike_depths(self):
        source = Random(41)
        for turn in range(150):
            many = source.randrange(7)
            one, near = samples.random_made(source, many, turn % 3, 7)
            other, far = samples.random_made(source, many, turn // 3 % 3, 7)
            with self.subTest(turn=turn):
                self.check_both_rounds(one, near, other, far)

    def test_all_pairs_of_kinds(self):
        rules = [Kinds(list(kinds), [1, 1, 0]) for kinds in product(range(3), repeat=3)]
        tables = [words.free_table(rule) for rule in rules]
        for one, near in zip(rules, tables):
            for other, far in zip(rules, tables):
                self.check_common_by_tables(common(one, other), near, far)


class ChosenTest(CommonChecks):
    def test_no_things(self):
        for one in EMPTY + [Turned(EMPTY[0]), Kept(TRIANGLE, []), Held(TRIANGLE, [0, 1, 2, 3])]:
            for other in EMPTY + [Beside(EMPTY[1], EMPTY[2]), Joined(EMPTY), Cut(EMPTY[3], 0)]:
                answer = common(one, other)
                self.assertEqual((answer.some, answer.part), ([], []))

    def test_the_order_of_the_two(self):
        none = Kinds([0] * 4, [0])
        every = Kinds([0] * 4, [4])
        answer = common(none, every)
        self.assertEqual((answer.some, answer.part), ([], [0, 1, 2, 3]))
        answer = common(every, none)
        self.assertEqual((answer.some, answer.part), ([], []))
        # Of 0 and 1 the one rule takes but one thing, of 2 and 3 the other.
        left = Kinds([0, 0, 1, 2], [1, 1, 1])
        right = Kinds([0, 1, 2, 2], [1, 1, 1])
        answer = common(left, right)
        self.check_common(answer, left, right)
        self.assertEqual((len(answer.some), answer.part), (2, [0, 1]))
        answer = common(right, left)
        self.check_common(answer, right, left)
        self.assertEqual((len(answer.some), answer.part), (2, [2, 3]))

    def test_a_rule_and_the_same_turned(self):
        rule = Threads(4, [(0, 1), (1, 2), (2, 3), (3, 0), (0, 2), (1, 3)])
        answer = common(rule, Turned(rule))
        self.check_common(answer, rule, Turned(rule))
        self.assertEqual(len(answer.some), 3)

    def test_a_set_of_one_of_each_sort(self):
        colours = Kinds([0, 1, 0, 1], [1, 1])
        answer = common(TRIANGLE, colours)
        self.check_common(answer, TRIANGLE, colours)
        self.assertEqual(len(answer.some), 2)


def chain(many):
    """Two rules by which things beside one another in the ground shut one another out, now by the one, now by the other.

    Of an odd count of things, more than half are free by both; where the others are taken first, all of
    them have to go out again.
    """
    return [thing // 2 for thing in range(many)], [(thing + 1) // 2 for thing in range(many)]


def mixed(kinds, order):
    return Kinds([kinds[thing] for thing in order], [1] * (max(kinds) + 1))


class SeveralChangesTest(CommonChecks):
    """Sets that can be made greater only if several things go out and others come in."""

    def test_chains_in_all_orders(self):
        for many in (3, 5, 6):
            near, far = chain(many)
            for order in permutations(range(many)):
                one = mixed(near, order)
                other = mixed(far, order)
                answer = common(one, other)
                self.check_common(answer, one, other)
                self.assertEqual(len(answer.some), (many + 1) // 2)

    def test_long_chains(self):
        source = Random(42)
        for many in (15, 16):
            near, far = chain(many)
            inner_first = list(range(1, many, 2)) + list(range(0, many, 2))
            orders = [inner_first] + [source.sample(range(many), many) for turn in range(60)]
            for order in orders:
                one = mixed(near, order)
                other = mixed(far, order)
                for first, second in ((one, other), (other, one)):
                    answer = common(first, second)
                    self.check_common(answer, first, second)
                    self.assertEqual(len(answer.some), 8)

    def test_ties_of_which_each_has_a_colour(self):
        source = Random(43)
        for turn in range(200):
            ties = [(source.randrange(5), source.randrange(5)) for thing in range(9)]
            one = Threads(5, ties)
            other = Kinds([source.randrange(5) for thing in range(9)], [1] * 5)
            answer = common(one, other)
            self.check_common(answer, one, other)
            self.check_common_by_tables(answer, words.free_table(one), words.free_table(other))

    def test_bits_and_posts(self):
        source = Random(44)
        for turn in range(150):
            one = Bits([source.randrange(1, 32) for thing in range(9)])
            other = Posts([source.sample(range(5), source.randrange(1, 3)) for thing in range(9)])
            for first, second in ((one, other), (other, one)):
                answer = common(first, second)
                self.check_common(answer, first, second)


class GreatGroundsTest(CommonChecks):
    def test_sixteen_things_of_the_four_sorts(self):
        rules = samples.great_rules()
        for one in rules:
            for other in rules:
                self.check_common(common(one, other), one, other)

    def test_sixteen_things_by_tables(self):
        pairs = samples.great_tables()
        for (one, near), (other, far) in zip(pairs, pairs[1:] + pairs[:1]):
            self.check_common_by_tables(common(one, other), near, far)

    def test_sixteen_things_of_rules_made_of_rules(self):
        ties, kinds, posts, bits = samples.great_rules()
        rules = [
            Turned(bits), Cut(ties, 5), Joined([Cut(kinds, 4), Turned(posts)]),
            Beside(Kept(ties, list(range(2, 12))), Held(bits, list(range(10)))),
            Turned(Joined([Turned(Joined([bits, Cut(kinds, 2)])), Cut(ties, 1)])),
        ]
        for one in rules:
            for other in rules + [posts]:
                self.check_common(common(one, other), one, other)
                self.check_common(common(other, one), other, one)
