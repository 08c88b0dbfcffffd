"""Rules made of rules made of rules, and points 6 and 7 for rules made of rules."""

from random import Random

from freesets.made import Beside, Cut, Held, Joined, Kept, Turned
from freesets.parting import packed, parted
from freesets.ranks import grown, rank, reach, ring
from freesets.rules import Bits, Kinds, Threads
from tests import checking, samples, words


class NestedTest(checking.FreeChecks):
    def test_each_way_of_each_way_of_each_way(self):
        for rule in (Threads(3, [(0, 1), (1, 2), (2, 0), (0, 1)]), Bits([1, 2, 3, 0])):
            for near, near_free in samples.every_way(rule, words.free_table(rule)):
                for far, far_free in samples.every_way(near, near_free):
                    for made, free in samples.every_way(far, far_free):
                        with self.subTest(near=type(near), far=type(far), made=type(made)):
                            self.check_table(made, free)

    def test_random_rules_of_each_depth(self):
        source = Random(11)
        for turn in range(240):
            depth = 1 + turn % 4
            made, free = samples.random_made(source, source.randrange(6), depth, 6)
            with self.subTest(turn=turn, depth=depth):
                self.check_table(made, free)

    def test_joined_of_joined_has_no_less_than_all_of_them(self):
        rules = [Kinds([0] * 6, [1])] * 5
        deep = Joined([Joined([Joined(rules[:2]), rules[2]]), Joined(rules[3:])])
        self.assertIs(deep.free([5, 4, 3, 2, 1]), True)
        self.assertIs(deep.free([5, 4, 3, 2, 1, 0]), False)

    def test_turned_of_kept_is_held_of_turned(self):
        for rule in samples.few_rules():
            for some in words.sets_of(rule.many()):
                others = [thing for thing in range(rule.many()) if thing not in some]
                wanted = words.free_table(Held(Turned(rule), others))
                self.assertEqual(words.free_table(Turned(Kept(rule, some))), wanted)

    def test_very_deep_on_a_small_ground(self):
        rule = Threads(4, [(0, 1), (1, 2), (2, 0), (2, 3), (3, 3)])
        made = rule
        for turn in range(1500):
            made = Joined([Cut(Turned(Turned(made)), 16)]) if turn % 2 else Beside(Kept(made, [4, 3, 2, 1, 0]), Bits([]))
        self.check_table(made, words.free_table(rule))


class NestedRanksTest(checking.RankChecks):
    def test_each_way(self):
        for rule in samples.few_rules():
            if rule.many() < 5:
                for made, free in samples.every_way(rule, words.free_table(rule)):
                    with self.subTest(rule=vars(rule), made=type(made)):
                        self.check_ranks_and_rings(made, free)

    def test_random_rules(self):
        source = Random(12)
        for turn in range(60):
            made, free = samples.random_made(source, source.randrange(6), 1 + turn % 4, 6)
            with self.subTest(turn=turn):
                self.check_ranks_and_rings(made, free)

    def test_chosen_answers(self):
        triangle = Threads(4, [(0, 1), (1, 2), (2, 0), (2, 3)])
        self.assertEqual(rank(Turned(triangle), [3, 2, 1, 0]), 1)
        self.assertEqual(grown(Turned(triangle), [3, 2, 1, 0]), [2])
        self.assertEqual(reach(Turned(triangle), []), [3])
        self.assertEqual(ring(Turned(triangle), [1], 0), [0, 1])
        self.assertEqual(ring(Cut(triangle, 2), [3, 0], 1), [0, 1, 3])
        self.assertEqual(ring(Joined([triangle, Kinds([0] * 4, [1])]), [2, 1, 0], 3), [])
        self.assertEqual(grown(Beside(triangle, triangle), [7, 6, 5, 4, 0, 1, 2]), [0, 1, 5, 6, 7])


class NestedExchangeTest(checking.ExchangeChecks):
    def test_each_way(self):
        for rule in samples.few_rules():
            for made, free in samples.every_way(rule, words.free_table(rule)):
                with self.subTest(rule=vars(rule), made=type(made)):
                    self.check_exchange(made)

    def test_random_rules(self):
        source = Random(13)
        for turn in range(120):
            made, free = samples.random_made(source, source.randrange(6), 1 + turn % 4, 6)
            with self.subTest(turn=turn):
                self.check_exchange(made)


class LargerGroundsTest(checking.FreeChecks):
    """Answers must come in good time: a program that asks each rule beneath anew does not end here."""

    @classmethod
    def setUpClass(cls):
        ties, kinds, posts, bits = samples.great_rules()
        low = Joined([Turned(Joined([ties, posts])), Cut(Joined([kinds, bits]), 5)])
        high = Joined([Turned(low), Cut(Turned(Joined([ties, ties, bits])), 2)])
        cls.deep = [
            low, high, Turned(Joined([Turned(high), Cut(Turned(low), 1)])),
            Joined([Joined([Turned(bits), Cut(kinds, 3)]), Turned(Joined([posts, Cut(bits, 2)])), Cut(high, 4)]),
            Beside(Held(Joined([low, kinds]), [15, 2, 4, 6, 8, 10]), Kept(Turned(low), [3, 0, 9, 7, 12, 5])),
        ]
        source = Random(14)
        cls.chosen = [source.sample(range(16), count) for count in range(17) for turn in range(3)]

    def test_each_set_agrees_with_its_rank_and_its_rings(self):
        for rule in self.deep:
            self.assertEqual(rule.many(), 16)
            for some in self.chosen:
                taken = grown(rule, some)
                self.assertIs(rule.free(taken), True)
                self.assertEqual(rank(rule, some[::-1]), len(taken))
                self.assertIs(rule.free(some), len(taken) == len(some))
                self.assertLessEqual(set(some), set(reach(rule, taken)))
                for thing in set(some) - set(taken):
                    found = ring(rule, taken, thing)
                    self.assertIs(rule.free(found), False)
                    for other in found:
                        self.assertIs(rule.free([left for left in found if left != other]), True)

    def test_turned_and_turned_again(self):
        for rule in self.deep:
            outer = Turned(Turned(rule))
            for some in self.chosen:
                self.assertIs(outer.free(some), rule.free(some))
                self.assertEqual(rank(Turned(rule), some) + rank(rule, list(range(16))),
                                 len(some) + rank(rule, [thing for thing in range(16) if thing not in some]))

    def test_deep_chains(self):
        rule = samples.great_rules()[3]
        made = rule
        for turn in range(30):
            made = Turned(Joined([Turned(Cut(made, 16))]))
        for some in self.chosen:
            self.assertIs(made.free(some), rule.free(some))

    def test_parting_and_packing(self):
        for rule in self.deep:
            self.assertIsNotNone(parted([rule] * 8))
            self.assertIsNotNone(packed(rule, 8))
