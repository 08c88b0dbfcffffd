"""Points 7 and 8: whole sets, all whole sets and all rings, and changes from one whole set to another."""

import unittest
from random import Random

from freesets.made import Beside, Cut, Held, Joined, Kept, Turned
from freesets.ranks import grown
from freesets.rules import Bits, Kinds, Posts, Threads
from freesets.wholes import both_ways, changes, is_whole, rings, whole, wholes
from tests import samples, words, words_wholes
from tests.checking_wholes import WholeChecks

EMPTY = [Threads(1, []), Kinds([], [3]), Posts([]), Bits([])]
RANK_NOUGHT = [Threads(2, [(0, 0), (1, 1), (0, 0)]), Kinds([0, 1, 0], [0, 0]), Posts([[], [], []]), Bits([0, 0, 0])]
TRIANGLE = Threads(4, [(0, 1), (1, 2), (2, 0), (2, 3)])


class SmallGroundsTest(WholeChecks):
    def test_each_of_the_four_sorts(self):
        for rule in samples.small_rules():
            with self.subTest(rule=vars(rule)):
                free = words.free_table(rule)
                self.check_whole(rule, free)
                self.check_listed(rule, free)

    def test_changes_of_each_of_the_four_sorts(self):
        for rule in samples.small_rules()[::3] + samples.few_rules():
            with self.subTest(rule=vars(rule)):
                free = words.free_table(rule)
                self.check_changes(rule, free)
                self.check_both_ways(rule, free)

    def test_each_of_the_six_rules_made_of_rules(self):
        for rule in samples.few_rules():
            for made, free in samples.every_way(rule, words.free_table(rule)):
                with self.subTest(rule=vars(rule), made=type(made)):
                    self.check_points(made, free)

    def test_no_things_and_rank_nought(self):
        for rule in EMPTY:
            for made in (rule, Turned(rule), Cut(rule, 0), Kept(rule, []), Held(rule, []), Beside(rule, rule),
                         Joined([rule] * 8)):
                self.assertEqual(whole(made), [])
                self.assertIs(is_whole(made, []), True)
                self.assertEqual(wholes(made), [[]])
                self.assertEqual(rings(made), [])
                self.assertEqual(changes(made, [], []), [])
        for rule in RANK_NOUGHT:
            for made in (rule, Cut(rule, 3), Kept(rule, [2, 1, 0]), Held(rule, []), Beside(EMPTY[0], rule),
                         Joined([rule, rule]), Turned(Turned(rule)), Cut(TRIANGLE, 0)):
                self.assertEqual(whole(made), [])
                self.assertIs(is_whole(made, []), True)
                self.assertIs(is_whole(made, [1]), False)
                self.assertEqual(wholes(made), [[]])
                self.assertEqual(rings(made), [[thing] for thing in range(made.many())])
                self.assertEqual(changes(made, [], []), [])

    def test_all_things_free(self):
        for rule in (Bits([1, 2, 4]), Kinds([0, 0, 0], [3]), Posts([[0], [1], [2]]), Turned(RANK_NOUGHT[1])):
            self.assertEqual(whole(rule), [0, 1, 2])
            self.assertEqual(wholes(rule), [[0, 1, 2]])
            self.assertEqual(rings(rule), [])
            self.assertIs(is_whole(rule, [2, 0, 1]), True)
            self.assertIs(is_whole(rule, [2, 0]), False)
            self.assertEqual(changes(rule, [2, 0, 1], [1, 2, 0]), [])


class ChosenTest(unittest.TestCase):
    def test_is_whole(self):
        self.assertIs(is_whole(TRIANGLE, [3, 0, 2]), True)
        self.assertIs(is_whole(TRIANGLE, [3, 0]), False)
        self.assertIs(is_whole(TRIANGLE, []), False)
        self.assertIs(is_whole(TRIANGLE, [2, 1, 0]), False)
        self.assertIs(is_whole(TRIANGLE, [3, 2, 1, 0]), False)

    def test_all_of_them_in_the_order_of_lists(self):
        self.assertEqual(wholes(TRIANGLE), [[0, 1, 3], [0, 2, 3], [1, 2, 3]])
        self.assertEqual(wholes(Kinds([0, 0, 1, 1], [1, 1])), [[0, 2], [0, 3], [1, 2], [1, 3]])
        self.assertEqual(wholes(Turned(TRIANGLE)), [[0], [1], [2]])
        rule = Threads(4, [(0, 1), (2, 2), (1, 3), (3, 0), (1, 0)])
        self.assertEqual(rings(rule), [[0, 2, 3], [0, 4], [1], [2, 3, 4]])
        self.assertEqual(rings(Kinds([0, 1, 0, 1, 2], [1, 1, 0])), [[0, 2], [1, 3], [4]])
        self.assertEqual(rings(Bits([3, 5, 6, 3])), [[0, 1, 2], [0, 3], [1, 2, 3]])

    def test_one_change_at_a_time(self):
        self.assertEqual(changes(TRIANGLE, [0, 1, 3], [3, 2, 1]), [(0, 2)])
        self.assertEqual(changes(TRIANGLE, [3, 2, 0], [2, 3, 0]), [])
        rule = Kinds([0, 0, 1, 1], [1, 1])
        self.assertEqual(sorted(changes(rule, [2, 0], [1, 3])), [(0, 1), (2, 3)])

    def test_what_fits_one_way_alone_is_not_told(self):
        # 1 and 5 can come for 0 there, and 0 can come for 3 and 5 here.
        rule = Threads(4, [(0, 1), (1, 2), (2, 3), (3, 0), (0, 2), (1, 3)])
        self.assertEqual(both_ways(rule, [4, 0, 2], [3, 5, 1], 0), 5)
        self.assertEqual(both_ways(rule, [2, 0, 5], [4, 1, 3], 0), 4)
        self.assertEqual(both_ways(rule, [0, 1, 2], [3, 4, 5], 2), 3)
        self.assertEqual(both_ways(Kinds([0, 1, 0, 1], [1, 1]), [3, 2], [0, 1], 3), 1)


class TenThingsTest(WholeChecks):
    """All sets tried one by one, on the greatest grounds whose whole sets and rings are listed."""

    def test_each_of_the_four_sorts(self):
        for rule in samples.great_rules():
            for some in ([0, 1, 2, 3, 4, 5, 6, 7, 8, 9], [15, 14, 12, 11, 9, 8, 5, 4, 2, 1]):
                made = Kept(rule, some)
                self.check_listed(made, words.free_table(made))
        for rule in (
                Threads(5, [(0, 1), (1, 2), (2, 3), (3, 4), (4, 0), (0, 2), (1, 3), (2, 4), (3, 0), (4, 1)]),
                Kinds([0, 1, 2, 0, 1, 2, 0, 1, 2, 0], [2, 1, 3]), Bits([1, 2, 4, 8, 3, 6, 12, 15, 0, 1]),
                Posts([[0, 1], [1, 2], [2, 3], [3, 0], [4], [4], [], [0, 4], [1, 3], [2]])):
            self.check_listed(rule, words.free_table(rule))

    def test_each_of_the_six_rules_made_of_rules(self):
        rule = Threads(5, [(0, 1), (1, 2), (2, 3), (3, 4), (4, 0), (0, 2), (1, 3), (2, 4), (3, 0), (4, 1)])
        great = samples.great_rules()[3]
        for made in (Turned(rule), Cut(rule, 3), Held(great, [0, 3, 8, 11, 13, 15]), Kept(great, list(range(3, 13))),
                     Beside(TRIANGLE, Kinds([0] * 6, [2])), Joined([rule, Kinds([0] * 10, [2])])):
            self.assertEqual(made.many(), 10)
            self.check_listed(made, words.free_table(made))

    def test_very_many_of_them(self):
        half = Kinds([0] * 10, [5])
        self.assertEqual(len(wholes(half)), 252)
        self.assertEqual(len(rings(half)), 210)
        self.assertEqual(wholes(Kinds([0] * 10, [10])), [list(range(10))])
        self.assertEqual(rings(Kinds([0] * 10, [10])), [])
        self.assertEqual(rings(Kinds([0] * 10, [9])), [list(range(10))])


class GreatGroundsTest(WholeChecks):
    @classmethod
    def setUpClass(cls):
        ties, kinds, posts, bits = samples.great_rules()
        cls.rules = [
            ties, kinds, posts, bits, Turned(ties), Cut(posts, 4), Kept(bits, list(range(15, -1, -1))), Held(kinds, []),
            Beside(Kept(ties, list(range(3, 11))), Held(bits, list(range(8)))), Joined([Cut(ties, 3), Turned(posts)]),
            Turned(Joined([Turned(Joined([bits, Cut(kinds, 2)])), Cut(ties, 1)])),
        ]

    def some_wholes(self, rule):
        source = Random(21)
        return [grown(rule, source.sample(range(16), 16)) for turn in range(6)]

    def test_whole(self):
        for rule in self.rules:
            self.assertEqual(rule.many(), 16)
            told = whole(rule)
            self.check_set(told, 16)
            self.assertIs(rule.free(told), True)
            for thing in range(16):
                if thing not in told:
                    self.assertIs(rule.free(told + [thing]), False)
                    self.assertIs(is_whole(rule, [thing] + told), False)
            self.assertIs(is_whole(rule, told), True)
            self.assertIs(is_whole(rule, told[::-1]), True)
            self.assertIs(is_whole(rule, told[1:]), False)
            for one in self.some_wholes(rule):
                self.assertEqual(len(one), len(told))
                self.assertIs(is_whole(rule, one), True)

    def test_changes(self):
        for rule in self.rules:
            for one in self.some_wholes(rule):
                for other in self.some_wholes(rule):
                    told = changes(rule, one[::-1], other)
                    self.follow(told, one, other,
                                lambda stage: len(stage) == len(one) and rule.free(sorted(stage)))

    def test_both_ways(self):
        for rule in self.rules:
            for one in self.some_wholes(rule):
                for other in self.some_wholes(rule):
                    for thing in set(one) - set(other):
                        mate = both_ways(rule, one, other[::-1], thing)
                        self.assertIn(mate, set(other) - set(one))
                        self.assertIs(rule.free(sorted(set(one) - {thing} | {mate})), True)
                        self.assertIs(rule.free(sorted(set(other) - {mate} | {thing})), True)

    def test_whole_tables_of_sixteen_things(self):
        for rule, free in samples.great_tables():
            found = words_wholes.wholes(free)
            self.assertIn(whole(rule), found)
            masks = {words.mask_of(some) for some in found}
            for mask in range(0, 1 << 16, 7):
                self.assertIs(is_whole(rule, words.set_of(mask)), mask in masks)
