"""What several test files ask in the same way. The classes here hold no test of their own."""

import unittest

from freesets.errors import FreeError
from freesets.ranks import grown, rank, reach, ring
from freesets.rules import Rule
from tests import words

HUGE = 10 ** 5000
NO_NUMBERS = (True, False, None, "0", 0.0, 1.5, b"0", [0], (0,), {0: 0}, [], object())
NO_LISTS = (None, True, 0, "", "01", (), (0,), {}, {0: 1}, set(), {0}, range(1), b"", iter([]), object())


def shown(given):
    try:
        return repr(given)[:80]
    except ValueError:
        return "a number too long to show"


class WrongChecks(unittest.TestCase):
    def refuses(self, error, made, *given):
        with self.subTest(made=made.__name__, given=shown(given)):
            with self.assertRaises(FreeError) as caught:
                made(*given)
            self.assertIs(type(caught.exception), error)


class SetChecks(unittest.TestCase):
    def check_set(self, some, many):
        self.assertIs(type(some), list)
        self.assertEqual(some, sorted(set(some)))
        for thing in some:
            self.assertIs(type(thing), int)
            self.assertIn(thing, range(many))


class FreeChecks(unittest.TestCase):
    def check_all_sets(self, rule, free, many):
        """Each set of the ground, in several orders, by a function that tells what is free."""
        self.assertIsInstance(rule, Rule)
        self.assertEqual(rule.many(), many)
        for some in words.sets_of(many):
            wanted = free(some)
            for handed in words.orders(some):
                self.assertIs(rule.free(handed), wanted, handed)

    def check_table(self, rule, table):
        """Each set of the ground by a table of what is free."""
        self.check_all_sets(rule, lambda some: table[words.mask_of(some)], (len(table) - 1).bit_length())


class ExchangeChecks(unittest.TestCase):
    def check_exchange(self, rule):
        """Point 6."""
        many = rule.many()
        masks = [words.mask_of(some) for some in words.sets_of(many)]
        free = {mask: rule.free(words.set_of(mask)) for mask in masks}
        self.assertIs(free[0], True)
        frees = [mask for mask in masks if free[mask]]
        for mask in frees:
            for thing in words.set_of(mask):
                self.assertTrue(free[mask & ~(1 << thing)])
        for lesser in frees:
            for greater in frees:
                if lesser.bit_count() < greater.bit_count():
                    gained = words.set_of(greater & ~lesser)
                    self.assertTrue(any(free[lesser | 1 << thing] for thing in gained))


def grown_by_the_words(rule, some):
    taken = []
    for thing in some:
        if rule.free(sorted(taken + [thing])):
            taken.append(thing)
    return sorted(taken)


class RankChecks(unittest.TestCase):
    """Point 7, against tables of the free sets and the ranks of all sets."""

    def check_ranks(self, rule, ranks, some):
        mask = words.mask_of(some)
        for handed in words.orders(some):
            before = list(handed)
            self.assertEqual(rank(rule, handed), ranks[mask])
            self.assertEqual(grown(rule, handed), grown_by_the_words(rule, handed))
            self.assertEqual(reach(rule, handed), words.reach_of(ranks, rule.many(), mask))
            self.assertEqual(handed, before)

    def check_rings(self, rule, free, some):
        for thing in range(rule.many()):
            if thing in some:
                continue
            found = words.rings_in(free, words.mask_of(some + [thing]))
            self.assertLessEqual(len(found), 1)
            wanted = found[0] if found else []
            for handed in words.orders(some):
                before = list(handed)
                self.assertEqual(ring(rule, handed, thing), wanted)
                self.assertEqual(handed, before)
            if wanted:
                self.assertIn(thing, wanted)

    def check_ranks_and_rings(self, rule, free):
        ranks = words.rank_table(free)
        for some in words.sets_of(rule.many()):
            self.check_ranks(rule, ranks, some)
            if free[words.mask_of(some)]:
                self.check_rings(rule, free, some)
