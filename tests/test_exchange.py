"""Point 6: what holds of the free sets of each rule."""

from tests import checking, samples


class ExchangeTest(checking.ExchangeChecks):
    def test_small_grounds(self):
        for rule in samples.small_rules():
            with self.subTest(rule=vars(rule)):
                self.check_exchange(rule)
