"""Points 2 to 5: which sets are free, for each of the four sorts."""

import unittest
from random import Random

from freesets.rules import Bits, Kinds, Posts, Rule, Threads
from tests import checking, grounds, words


def chosen_sets(seed):
    """Some sets of a ground of 16 things, of every count, in mixed orders."""
    source = Random(seed)
    return [source.sample(range(16), count) for count in range(17) for turn in range(40)]


class ThreadsTest(checking.FreeChecks):
    def test_small_grounds(self):
        for places, ties in grounds.threads_small():
            with self.subTest(places=places, ties=ties):
                self.check_all_sets(
                    Threads(places, ties), lambda some: words.threads_free(places, ties, some), len(ties))

    def test_no_ties(self):
        for places in (1, 20):
            self.assertEqual(Threads(places, []).many(), 0)
            self.assertIs(Threads(places, []).free([]), True)

    def test_a_tie_from_a_place_to_itself_is_never_free(self):
        rule = Threads(1, [(0, 0)])
        self.assertIs(rule.free([]), True)
        self.assertIs(rule.free([0]), False)

    def test_the_same_tie_twice(self):
        for second in ((0, 1), (1, 0)):
            rule = Threads(2, [(0, 1), second])
            self.assertIs(rule.free([0]), True)
            self.assertIs(rule.free([1]), True)
            self.assertIs(rule.free([0, 1]), False)

    def test_sixteen_ties_of_twenty_places(self):
        row = Threads(20, [(place, place + 1) for place in range(3, 19)])
        self.assertEqual(row.many(), 16)
        self.assertIs(row.free(list(range(16))), True)
        around = Threads(20, [(place, place + 1) for place in range(4, 19)] + [(19, 4)])
        self.assertIs(around.free(list(range(16))), False)
        for left in range(16):
            self.assertIs(around.free([thing for thing in range(16) if thing != left]), True)

    def test_sixteen_things(self):
        places, ties = grounds.threads_great()
        rule = Threads(places, ties)
        for some in chosen_sets(12):
            # Where no walk comes back, each tie lessens the count of joined parts by one.
            parts = [{place} for place in range(places)]
            for thing in some:
                joined = [part for part in parts if part & set(ties[thing])]
                parts = [part for part in parts if part not in joined] + [set().union(*joined)]
            self.assertIs(rule.free(some), len(parts) == places - len(some), some)


class KindsTest(checking.FreeChecks):
    def test_small_grounds(self):
        for kinds, most in grounds.kinds_small():
            with self.subTest(kinds=kinds, most=most):
                self.check_all_sets(Kinds(kinds, most), lambda some: words.kinds_free(kinds, most, some), len(kinds))

    def test_none_of_a_kind(self):
        rule = Kinds([0, 1], [0, 1])
        self.assertIs(rule.free([0]), False)
        self.assertIs(rule.free([1]), True)
        self.assertIs(rule.free([1, 0]), False)

    def test_sixteen_of_a_kind(self):
        self.assertIs(Kinds([0] * 16, [16]).free(list(range(16))), True)
        self.assertIs(Kinds([0] * 16, [15]).free(list(range(16))), False)
        self.assertIs(Kinds([0] * 16, [15]).free(list(range(15))), True)

    def test_more_kinds_than_things(self):
        self.assertIs(Kinds([39, 39], [0] * 39 + [1]).free([1]), True)
        self.assertIs(Kinds([39, 39], [0] * 39 + [1]).free([1, 0]), False)

    def test_sixteen_things(self):
        kinds, most = grounds.kinds_great()
        rule = Kinds(kinds, most)
        self.assertEqual(rule.many(), 16)
        for some in chosen_sets(13):
            self.assertIs(rule.free(some), words.kinds_free(kinds, most, some), some)


class PostsTest(checking.FreeChecks):
    def test_small_grounds(self):
        for wants in grounds.posts_small():
            with self.subTest(wants=wants):
                self.check_all_sets(Posts(wants), lambda some: words.posts_free(wants, some), len(wants))

    def test_a_thing_that_wants_none_is_never_free(self):
        rule = Posts([[], [0]])
        self.assertIs(rule.free([0]), False)
        self.assertIs(rule.free([1]), True)
        self.assertIs(rule.free([1, 0]), False)

    def test_the_lowest_and_the_highest_post(self):
        rule = Posts([[0, 30], [30], [0]])
        self.assertIs(rule.free([0, 1]), True)
        self.assertIs(rule.free([0, 2]), True)
        self.assertIs(rule.free([0, 1, 2]), False)

    def test_every_earlier_thing_gives_up_its_post(self):
        chain = [[thing, thing + 1] for thing in range(15)] + [[0]]
        self.assertIs(Posts(chain).free(list(range(16))), True)
        self.assertIs(Posts(chain[:-2] + [[14], [0]]).free(list(range(16))), False)

    def test_an_earlier_thing_gives_up_its_post_by_its_last_wish(self):
        rule = Posts([[0, 1, 2], [1, 0], [0, 1]])
        for some in ([0, 1, 2], [2, 1, 0], [1, 2, 0], [1, 0, 2]):
            self.assertIs(rule.free(some), True)

    def test_all_posts_wanted_by_all(self):
        self.assertIs(Posts([list(range(31))] * 16).free(list(range(16))), True)
        self.assertIs(Posts([list(range(15))] * 16).free(list(range(16))), False)

    def test_sixteen_things(self):
        wants = grounds.posts_great()
        rule = Posts(wants)
        self.assertEqual(rule.many(), 16)
        for some in chosen_sets(14):
            if len(some) <= 10:
                self.assertIs(rule.free(some), words.posts_free(wants, some), some)


class BitsTest(checking.FreeChecks):
    def test_small_grounds(self):
        for rows in grounds.bits_small():
            with self.subTest(rows=rows):
                self.check_all_sets(Bits(rows), lambda some: words.bits_free(rows, some), len(rows))

    def test_a_row_of_nought_is_never_free(self):
        self.assertIs(Bits([0]).free([0]), False)
        self.assertIs(Bits([1, 0]).free([0, 1]), False)

    def test_two_rows_alike(self):
        rule = Bits([6, 6])
        self.assertIs(rule.free([0]), True)
        self.assertIs(rule.free([1, 0]), False)

    def test_a_row_that_is_the_sum_of_others(self):
        rule = Bits([12, 10, 9, 15])
        for some in ([0, 1, 2, 3], [3, 2, 1, 0], [1, 3, 0, 2]):
            self.assertIs(rule.free(some), False)
        for some in ([0, 1, 2], [3, 2, 1], [3, 0, 2], [1, 3, 0]):
            self.assertIs(rule.free(some), True)

    def test_the_highest_bit(self):
        rule = Bits([1 << 31, (1 << 31) + 1, 1])
        self.assertIs(rule.free([0, 1]), True)
        self.assertIs(rule.free([0, 2]), True)
        self.assertIs(rule.free([0, 1, 2]), False)

    def test_sixteen_single_bits(self):
        self.assertIs(Bits([1 << bit for bit in range(16, 32)]).free(list(range(16))), True)

    def test_sixteen_things(self):
        rows = grounds.bits_great()
        rule = Bits(rows)
        self.assertEqual(rule.many(), 16)
        for some in chosen_sets(15):
            sums = {0}
            for thing in some:
                sums |= {total ^ rows[thing] for total in sums}
            # The sums of all parts are different just where no part has the sum 0.
            self.assertIs(rule.free(some), len(sums) == 1 << len(some), some)


class SortsTest(unittest.TestCase):
    def test_a_ground_of_no_things(self):
        for rule in (Threads(1, []), Kinds([], []), Posts([]), Bits([])):
            self.assertEqual(rule.many(), 0)
            self.assertIs(rule.free([]), True)

    def test_each_sort_is_straight_under_rule(self):
        for sort in (Threads, Kinds, Posts, Bits):
            self.assertEqual(sort.__bases__, (Rule,))
