"""Point 7: rank, grown, reach and ring."""

import unittest
from random import Random

from freesets.ranks import grown, rank, reach, ring
from freesets.rules import Bits, Kinds, Posts, Threads
from tests import checking, samples, words


class TableTest(checking.RankChecks):
    def test_small_grounds(self):
        for rule in samples.small_rules():
            with self.subTest(rule=vars(rule)):
                self.check_ranks_and_rings(rule, words.free_table(rule))

    def test_grounds_of_sixteen_things(self):
        for rule, free in samples.great_tables():
            with self.subTest(rule=vars(rule)):
                self.assertEqual(rule.many(), 16)
                ranks = words.rank_table(free)
                source = Random(16)
                chosen = [source.sample(range(16), count) for count in range(17) for turn in range(6)]
                for some in chosen:
                    self.check_ranks(rule, ranks, sorted(some))
                for some in chosen[::3]:
                    self.check_rings(rule, free, checking.grown_by_the_words(rule, some))


class RanksTest(unittest.TestCase):
    def setUp(self):
        self.triangle = Threads(4, [(0, 1), (1, 2), (2, 0), (2, 3), (3, 3)])

    def test_rank(self):
        self.assertEqual(rank(self.triangle, []), 0)
        self.assertEqual(rank(self.triangle, [4]), 0)
        self.assertEqual(rank(self.triangle, [2, 0, 1]), 2)
        self.assertEqual(rank(self.triangle, [4, 3, 2, 1, 0]), 3)

    def test_rank_is_a_number(self):
        self.assertIs(type(rank(self.triangle, [0])), int)

    def test_grown_looks_in_the_order_handed_in_and_tells_a_rising_list(self):
        self.assertEqual(grown(self.triangle, [0, 1, 2, 3, 4]), [0, 1, 3])
        self.assertEqual(grown(self.triangle, [4, 3, 2, 1, 0]), [1, 2, 3])
        self.assertEqual(grown(self.triangle, [1, 4, 0, 2]), [0, 1])
        self.assertEqual(grown(Kinds([0, 0], [2]), [1, 0]), [0, 1])
        self.assertEqual(grown(self.triangle, []), [])

    def test_reach_has_its_own_things_and_those_free_by_no_set(self):
        self.assertEqual(reach(self.triangle, []), [4])
        self.assertEqual(reach(self.triangle, [2, 1]), [0, 1, 2, 4])
        self.assertEqual(reach(self.triangle, [2, 1, 0]), [0, 1, 2, 4])
        self.assertEqual(reach(self.triangle, [3, 0]), [0, 3, 4])
        self.assertEqual(reach(self.triangle, [3, 1, 0]), [0, 1, 2, 3, 4])

    def test_ring(self):
        self.assertEqual(ring(self.triangle, [3, 2, 1], 0), [0, 1, 2])
        self.assertEqual(ring(self.triangle, [3, 1], 4), [4])
        self.assertEqual(ring(self.triangle, [], 4), [4])
        self.assertEqual(ring(self.triangle, [3, 1], 0), [])
        self.assertEqual(ring(self.triangle, [], 0), [])

    def test_rings_of_the_other_sorts(self):
        self.assertEqual(ring(Kinds([0, 1, 0, 0], [2, 1]), [3, 1, 2], 0), [0, 2, 3])
        self.assertEqual(ring(Posts([[0], [0, 1], [1], [2]]), [3, 2, 0], 1), [0, 1, 2])
        self.assertEqual(ring(Bits([1, 2, 4, 5]), [2, 1, 0], 3), [0, 2, 3])

    def test_a_ground_of_no_things(self):
        for rule in (Threads(1, []), Kinds([], []), Posts([]), Bits([])):
            self.assertEqual(rank(rule, []), 0)
            self.assertEqual(grown(rule, []), [])
            self.assertEqual(reach(rule, []), [])
