"""Point 6: what holds of the free sets of each rule."""

import unittest

from tests import samples, words


class ExchangeTest(unittest.TestCase):
    def check(self, rule):
        many = rule.many()
        masks = [words.mask_of(some) for some in words.sets_of(many)]
        free = {mask: rule.free(words.set_of(mask)) for mask in masks}
        self.assertIs(free[0], True)
        frees = [mask for mask in masks if free[mask]]
        for mask in frees:
            for thing in words.set_of(mask):
                self.assertTrue(free[mask & ~(1 << thing)])
        for lesser in frees:
            for greater in frees:
                if lesser.bit_count() < greater.bit_count():
                    gained = words.set_of(greater & ~lesser)
                    self.assertTrue(any(free[lesser | 1 << thing] for thing in gained))

    def test_small_grounds(self):
        for rule in samples.small_rules():
            with self.subTest(rule=vars(rule)):
                self.check(rule)
